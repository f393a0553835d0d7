package pack_test

import (
	"bytes"
	"math"
	"slices"
	"testing"

	"noria/api"
	"noria/pack"
)

func TestWidth(t *testing.T) {
	for i, c := range []struct {
		l    []uint64
		want int
	}{
		{nil, 0}, {[]uint64{0, 0}, 0}, {[]uint64{1}, 1}, {[]uint64{2, 1}, 2}, {[]uint64{3, 4}, 3}, {[]uint64{255}, 8}, {[]uint64{256, 0}, 9},
		{[]uint64{1 << 62}, 63}, {[]uint64{math.MaxUint64}, 64},
	} {
		if got := pack.Width(c.l); got != c.want {
			t.Errorf("P401: Width %d is %d", i, got)
		}
	}
}

func TestSize(t *testing.T) {
	for _, c := range [][3]int{
		{0, 0, 0}, {0, 64, 0}, {5, 0, 0}, {1, 1, 1}, {8, 1, 1}, {9, 1, 2}, {3, 3, 2}, {65536, 64, 524288}, {65536, 1, 8192},
		{65537, 1, 0}, {1, 65, 0}, {-1, 8, 0}, {8, -1, 0}, {math.MaxInt, 64, 0}, {math.MinInt, math.MinInt, 0},
	} {
		if got := pack.Size(c[0], c[1]); got != c[2] {
			t.Errorf("P401: Size(%d, %d) is %d", c[0], c[1], got)
		}
	}
}

// slow packs bit by bit.
func slow(l []uint64, width int) []byte {
	b := make([]byte, (len(l)*width+7)/8)
	for i, u := range l {
		for k := range width {
			at := i*width + k
			b[at/8] |= byte(u>>k&1) << (at % 8)
		}
	}
	return b
}

func TestPutAndGet(t *testing.T) {
	if b, e := pack.Put([]uint64{1, 2, 5}, 3); !bytes.Equal(b, []byte{0b01010001, 0b1}) || e != api.OK {
		t.Errorf("P401: Put is %b, %v", b, e)
	}
	for width := 0; width <= 64; width++ {
		for n := range 20 {
			l := make([]uint64, n)
			for i := range l {
				l[i] = 0x9E3779B97F4A7C15 * uint64(i*65+width+1) & (1<<width - 1)
			}
			b, e := pack.Put(l, width)
			if !bytes.Equal(b, slow(l, width)) || e != api.OK {
				t.Fatalf("P401: Put of %v in %d is %v, %v", l, width, b, e)
			}
			if got, e := pack.Get(b, n, width); !slices.Equal(got, l) || e != api.OK {
				t.Fatalf("P401: Get of %v in %d is %v, %v", l, width, got, e)
			}
		}
	}
	most := make([]uint64, 65536)
	if b, e := pack.Put(most, 1); len(b) != 8192 || e != api.OK {
		t.Errorf("P401: Put of the most is %d bytes, %v", len(b), e)
	}
	if l, e := pack.Get(nil, 65536, 0); len(l) != 65536 || e != api.OK {
		t.Errorf("P401: Get of the most is %d numbers, %v", len(l), e)
	}
}

func TestPutRefuses(t *testing.T) {
	more := make([]uint64, 65537)
	wide := append(make([]uint64, 65536), 2)
	for i, c := range []struct {
		l     []uint64
		width int
		want  api.Errno
	}{
		{nil, -1, api.ErrArg}, {nil, 65, api.ErrArg}, {[]uint64{1}, 0, api.ErrArg}, {[]uint64{0, 8}, 3, api.ErrArg},
		{[]uint64{math.MaxUint64}, 63, api.ErrArg}, {more, 0, api.ErrLong}, {more, 64, api.ErrLong}, {wide, 1, api.ErrArg}, {more, 65, api.ErrArg},
	} {
		if b, e := pack.Put(c.l, c.width); len(b) != 0 || e != c.want {
			t.Errorf("P401: Put %d is %v, %v", i, len(b), e)
		}
	}
}

func TestGetRefuses(t *testing.T) {
	for i, c := range []struct {
		b        []byte
		n, width int
		want     api.Errno
	}{
		{nil, -1, 1, api.ErrArg}, {nil, 65537, 0, api.ErrArg}, {nil, 1, -1, api.ErrArg}, {nil, 1, 65, api.ErrArg},
		{nil, 1, 1, api.ErrShort}, {[]byte{1}, 9, 1, api.ErrShort}, {[]byte{1, 0}, 8, 1, api.ErrLong}, {[]byte{0}, 0, 8, api.ErrLong},
		{[]byte{0}, 5, 0, api.ErrLong}, {[]byte{2}, 1, 1, api.ErrForm}, {[]byte{0x80}, 7, 1, api.ErrForm}, {[]byte{0xFF, 2}, 3, 3, api.ErrForm},
		{[]byte{0x80}, 8, 1, api.OK}, {[]byte{0xFF, 1}, 3, 3, api.OK}, {[]byte{2, 0}, 1, 1, api.ErrLong},
	} {
		if l, e := pack.Get(c.b, c.n, c.width); e != c.want || e != api.OK && len(l) != 0 {
			t.Errorf("P401: Get %d is %v, %v; want %v", i, l, e, c.want)
		}
	}
}
