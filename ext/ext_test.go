package ext_test

import (
	"math"
	"slices"
	"testing"

	"noria/api"
	"noria/ext"
)

func TestCheck(t *testing.T) {
	for i, c := range []struct {
		e      ext.Ext
		blocks int
		want   api.Errno
	}{
		{ext.Ext{2, 1}, 3, api.OK}, {ext.Ext{2, 2}, 4, api.OK}, {ext.Ext{3, 1}, 4, api.OK}, {ext.Ext{1023, 1}, 1024, api.OK}, {ext.Ext{2, 1022}, 1024, api.OK},
		{ext.Ext{2, 0}, 9, api.ErrArg}, {ext.Ext{2, -1}, 9, api.ErrArg}, {ext.Ext{1, 1}, 9, api.ErrArg}, {ext.Ext{0, 1}, 9, api.ErrArg}, {ext.Ext{-5, 9}, 9, api.ErrArg}, {ext.Ext{2, 3}, 4, api.ErrArg}, {ext.Ext{4, 1}, 4, api.ErrArg},
		{ext.Ext{1024, 1}, 9999, api.ErrArg}, {ext.Ext{2, 1023}, 9999, api.ErrArg}, {ext.Ext{2, 1}, 2, api.ErrArg}, {ext.Ext{2, 1}, -1, api.ErrArg}, {ext.Ext{2, 1}, math.MinInt, api.ErrArg}, {ext.Ext{2, 1}, math.MaxInt, api.OK},
		{ext.Ext{math.MaxInt, 1}, 9, api.ErrArg}, {ext.Ext{2, math.MaxInt}, 9, api.ErrArg}, {ext.Ext{math.MaxInt, math.MaxInt}, math.MaxInt, api.ErrArg}, {ext.Ext{math.MinInt, math.MaxInt}, 9, api.ErrArg}, {ext.Ext{}, 9, api.ErrArg},
	} {
		if e := ext.Check(c.e, c.blocks); e != c.want {
			t.Errorf("P1401: %d: Check is %v", i, e)
		}
	}
}

func TestOverlap(t *testing.T) {
	for i, c := range []struct {
		a, b ext.Ext
		want bool
	}{
		{ext.Ext{2, 3}, ext.Ext{4, 1}, true}, {ext.Ext{2, 3}, ext.Ext{5, 1}, false}, {ext.Ext{2, 3}, ext.Ext{2, 3}, true}, {ext.Ext{2, 9}, ext.Ext{4, 1}, true}, {ext.Ext{2, 0}, ext.Ext{2, 3}, false}, {ext.Ext{3, 0}, ext.Ext{2, 3}, false},
		{ext.Ext{2, -9}, ext.Ext{2, 3}, false}, {ext.Ext{}, ext.Ext{}, false}, {ext.Ext{-9, 5}, ext.Ext{-5, 1}, true}, {ext.Ext{-9, 4}, ext.Ext{-5, 1}, false}, {ext.Ext{math.MinInt, math.MaxInt}, ext.Ext{math.MaxInt, 1}, false},
		{ext.Ext{5, math.MaxInt}, ext.Ext{math.MaxInt, 1}, true}, {ext.Ext{math.MinInt, math.MaxInt}, ext.Ext{-2, 1}, true}, {ext.Ext{math.MinInt, math.MaxInt}, ext.Ext{-1, 1}, false},
	} {
		if ext.Overlap(c.a, c.b) != c.want || ext.Overlap(c.b, c.a) != c.want {
			t.Errorf("P1401: %d: Overlap is not %v", i, c.want)
		}
	}
}

func TestFree(t *testing.T) {
	for i, c := range []struct {
		blocks int
		used   []ext.Ext
		want   []ext.Ext
	}{
		{-1, nil, nil}, {2, nil, nil}, {3, nil, []ext.Ext{{2, 1}}}, {10, nil, []ext.Ext{{2, 8}}}, {9999, nil, []ext.Ext{{2, 1022}}}, {math.MaxInt, nil, []ext.Ext{{2, 1022}}}, {math.MinInt, nil, nil},
		{10, []ext.Ext{{2, 8}}, nil}, {10, []ext.Ext{{4, 2}}, []ext.Ext{{2, 2}, {6, 4}}}, {10, []ext.Ext{{8, 2}, {2, 1}}, []ext.Ext{{3, 5}}}, {10, []ext.Ext{{5, 3}, {4, 2}, {9, 1}}, []ext.Ext{{2, 2}, {8, 1}}},
		{10, []ext.Ext{{1, 3}, {0, 9}, {9, 2}, {4, 0}, {4, -1}, {math.MaxInt, 3}, {3, math.MaxInt}}, []ext.Ext{{2, 8}}}, {10, []ext.Ext{{3, 1}, {5, 1}, {7, 1}}, []ext.Ext{{2, 1}, {4, 1}, {6, 1}, {8, 2}}},
		{9999, []ext.Ext{{1020, 5}, {1000, 24}}, []ext.Ext{{2, 998}}},
	} {
		if got := ext.Free(c.blocks, c.used); !slices.Equal(got, c.want) {
			t.Errorf("P1401: %d: Free is %v", i, got)
		}
	}
}

func TestTake(t *testing.T) {
	free := []ext.Ext{{2, 1}, {5, 0}, {7, 3}, {20, 9}}
	for i, c := range []struct {
		n    int
		e    ext.Ext
		left []ext.Ext
		want api.Errno
	}{
		{1, ext.Ext{2, 1}, []ext.Ext{{7, 3}, {20, 9}}, api.OK}, {2, ext.Ext{7, 2}, []ext.Ext{{2, 1}, {9, 1}, {20, 9}}, api.OK}, {3, ext.Ext{7, 3}, []ext.Ext{{2, 1}, {20, 9}}, api.OK}, {4, ext.Ext{20, 4}, []ext.Ext{{2, 1}, {7, 3}, {24, 5}}, api.OK},
		{9, ext.Ext{20, 9}, []ext.Ext{{2, 1}, {7, 3}}, api.OK}, {10, ext.Ext{}, nil, api.ErrDevice}, {0, ext.Ext{}, nil, api.ErrArg}, {-1, ext.Ext{}, nil, api.ErrArg}, {math.MaxInt, ext.Ext{}, nil, api.ErrDevice}, {math.MinInt, ext.Ext{}, nil, api.ErrArg},
	} {
		e, left, err := ext.Take(free, c.n)
		if e != c.e || !slices.Equal(left, c.left) || err != c.want {
			t.Errorf("P1401: %d: Take is %v, %v, %v", i, e, left, err)
		}
	}
	if !slices.Equal(free, []ext.Ext{{2, 1}, {5, 0}, {7, 3}, {20, 9}}) {
		t.Errorf("P2: what was handed in is %v", free)
	}
	if e, left, err := ext.Take(nil, 1); e != (ext.Ext{}) || len(left) != 0 || err != api.ErrDevice {
		t.Errorf("P1401: Take of none is %v, %v, %v", e, left, err)
	}
}
