package rle_test

import (
	"bytes"
	"math"
	"slices"
	"testing"

	"noria/api"
	"noria/num"
	"noria/rle"
)

func TestPutAndGet(t *testing.T) {
	long := make([]uint64, 300)
	for i, c := range []struct {
		l    []uint64
		runs int
		b    []byte
	}{
		{nil, 0, nil}, {[]uint64{0}, 1, []byte{1, 0}}, {[]uint64{7, 7, 7}, 1, []byte{3, 7}}, {[]uint64{7, 8, 8, 7}, 3, []byte{1, 7, 2, 8, 1, 7}},
		{[]uint64{300, 300}, 1, []byte{2, 0xAC, 2}}, {long, 1, []byte{0xAC, 2, 0}}, {[]uint64{0, 0, 1}, 2, []byte{2, 0, 1, 1}},
		{[]uint64{math.MaxUint64}, 1, num.Put([]byte{1}, math.MaxUint64)},
	} {
		if got := rle.Runs(c.l); got != c.runs {
			t.Errorf("P501: %d: Runs is %d", i, got)
		}
		if got := rle.Put(c.l); !bytes.Equal(got, c.b) {
			t.Errorf("P501: %d: Put is %v", i, got)
		}
		for _, most := range []int{len(c.l), len(c.l) + 1, math.MaxInt} {
			if got, e := rle.Get(c.b, most); !slices.Equal(got, c.l) || e != api.OK {
				t.Errorf("P501: %d: Get of %d is %v, %v", i, most, got, e)
			}
		}
		if got, e := rle.Get(c.b, len(c.l)-1); len(got) != 0 || len(c.l) > 0 && e != api.ErrLong || len(c.l) == 0 && e != api.ErrArg {
			t.Errorf("P501: %d: Get of fewer is %v, %v", i, got, e)
		}
	}
}

func TestGetRefuses(t *testing.T) {
	huge := num.Put(nil, math.MaxUint64)
	for i, c := range []struct {
		b    []byte
		most int
		want api.Errno
	}{
		{[]byte{128}, -1, api.ErrArg}, {nil, math.MinInt, api.ErrArg}, {[]byte{1}, 9, api.ErrShort}, {[]byte{128}, 9, api.ErrShort},
		{[]byte{1, 128}, 9, api.ErrShort}, {[]byte{128, 0, 1}, 9, api.ErrForm}, {[]byte{1, 128, 0}, 9, api.ErrForm},
		{[]byte{0, 5}, 9, api.ErrForm}, {[]byte{0}, 9, api.ErrShort}, {[]byte{0, 5}, 0, api.ErrForm}, {[]byte{1, 5, 1, 5}, 9, api.ErrForm},
		{[]byte{1, 5, 1, 5}, 1, api.ErrForm}, {[]byte{1, 5, 1, 6}, 1, api.ErrLong}, {[]byte{10, 5}, 9, api.ErrLong}, {[]byte{10, 128}, 9, api.ErrShort},
		{append(huge[:len(huge):len(huge)], 5), math.MaxInt, api.ErrLong}, {append([]byte{1, 4}, append(huge, 5)...), 9, api.ErrLong},
		{[]byte{10, 5, 0}, 9, api.ErrLong}, {[]byte{1, 5, 2, 6, 1, 5}, 4, api.OK}, {[]byte{0, 0}, 9, api.ErrForm},
	} {
		if l, e := rle.Get(c.b, c.most); e != c.want || e != api.OK && len(l) != 0 {
			t.Errorf("P501: %d: Get is %v, %v; want %v", i, l, e, c.want)
		}
	}
}
