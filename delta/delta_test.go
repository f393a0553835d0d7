package delta_test

import (
	"bytes"
	"math"
	"slices"
	"testing"

	"noria/api"
	"noria/delta"
)

func TestSteps(t *testing.T) {
	for i, c := range []struct {
		l    []int64
		want []uint64
	}{
		{nil, nil}, {[]int64{0}, []uint64{0}}, {[]int64{5, 7, 6}, []uint64{10, 4, 1}}, {[]int64{-1, -1}, []uint64{1, 0}},
		{[]int64{math.MinInt64, math.MaxInt64}, []uint64{math.MaxUint64, 1}}, {[]int64{math.MaxInt64, math.MinInt64}, []uint64{math.MaxUint64 - 1, 2}},
	} {
		if got := delta.Steps(c.l); !slices.Equal(got, c.want) {
			t.Errorf("P601: %d: Steps is %v", i, got)
		}
	}
}

func TestPutAndGet(t *testing.T) {
	for i, c := range []struct {
		l []int64
		b []byte
	}{
		{nil, []byte{0}}, {[]int64{0, 0, 0}, []byte{0}}, {[]int64{-1}, []byte{1, 1}}, {[]int64{5, 7, 6}, []byte{4, 0x4A, 1}},
		{[]int64{1, 2, 3, 4}, []byte{2, 0xAA}},
	} {
		if got := delta.Put(c.l); !bytes.Equal(got, c.b) {
			t.Errorf("P601: %d: Put is %v", i, got)
		}
		if got, e := delta.Get(c.b, len(c.l)); !slices.Equal(got, c.l) || e != api.OK {
			t.Errorf("P601: %d: Get is %v, %v", i, got, e)
		}
	}
	for _, l := range [][]int64{{math.MinInt64, math.MaxInt64, math.MinInt64, 0}, {math.MaxInt64}, {-1 << 40, 1 << 40, 3}, make([]int64, 65536)} {
		if got, e := delta.Get(delta.Put(l), len(l)); !slices.Equal(got, l) || e != api.OK {
			t.Errorf("P601: %d numbers come back as %d, %v", len(l), len(got), e)
		}
	}
}

func TestGetRefuses(t *testing.T) {
	for i, c := range []struct {
		b    []byte
		n    int
		want api.Errno
	}{
		{nil, -1, api.ErrArg}, {nil, 65537, api.ErrArg}, {nil, 0, api.ErrShort}, {nil, 3, api.ErrShort}, {[]byte{65}, 0, api.ErrArg}, {[]byte{255, 1}, 1, api.ErrArg},
		{[]byte{4, 1}, 3, api.ErrShort}, {[]byte{4, 1, 1, 1}, 3, api.ErrLong}, {[]byte{4, 0x4A, 0x11}, 3, api.ErrForm}, {[]byte{5, 0x4A, 0x04}, 3, api.ErrForm},
		{[]byte{1}, 0, api.ErrForm}, {[]byte{1, 0}, 1, api.ErrForm}, {[]byte{0}, 65536, api.OK}, {[]byte{0, 0}, 1, api.ErrLong},
	} {
		if l, e := delta.Get(c.b, c.n); e != c.want || e != api.OK && len(l) != 0 {
			t.Errorf("P601: %d: Get is %v, %v; want %v", i, l, e, c.want)
		}
	}
}
