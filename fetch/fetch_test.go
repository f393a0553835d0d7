package fetch_test

import (
	"math"
	"slices"
	"testing"

	"noria/api"
	"noria/col"
	"noria/dev"
	"noria/ext"
	"noria/fetch"
	"noria/group"
	"noria/page"
	"noria/pool"
	"noria/stat"
	"noria/val"
)

func numbers(l ...int64) []val.Val {
	var out []val.Val
	for _, n := range l {
		out = append(out, val.Val{Kind: val.Int, N: n})
	}
	return out
}

// laid answers a device with l's column at 4, and the Chunk that tells of it.
func laid(t *testing.T, l []val.Val) (*dev.Device, group.Chunk) {
	t.Helper()
	d, _ := dev.New(16)
	b, _, e := col.Best(l, val.Int)
	if e != api.OK {
		t.Fatal(e)
	}
	page.Write(d, 4, b)
	s, _ := stat.Of(l, val.Int)
	return d, group.Chunk{Ext: ext.Ext{At: 4, N: page.Size(len(b))}, Stat: s}
}

func TestColumn(t *testing.T) {
	l := append(numbers(5, -3, 9), val.Val{})
	d, c := laid(t, l)
	p, _ := pool.New(1, 1)
	for i := range 3 {
		got, e := fetch.Column(d, p, c)
		if !slices.Equal(got, l) || e != api.OK || p.Pins(4) != i+1 {
			t.Errorf("P2001: Column is %v, %v; %d Pins", got, e, p.Pins(4))
		}
		got[0].N = 77
		d.Write(4, make([]byte, 64))
	}
}

func TestColumnRefuses(t *testing.T) {
	l := numbers(5, -3, 9)
	for name, spoil := range map[string]func(d *dev.Device, c *group.Chunk){
		"a torn page":    func(d *dev.Device, c *group.Chunk) { d.Write(4, make([]byte, 64)) },
		"no such blocks": func(d *dev.Device, c *group.Chunk) { c.Ext.At = 16 },
		"no blocks":      func(d *dev.Device, c *group.Chunk) { c.Ext.N = 0 },
		"no column":      func(d *dev.Device, c *group.Chunk) { page.Write(d, 4, []byte{9}) },
		"another kind":   func(d *dev.Device, c *group.Chunk) { c.Stat.Kind = val.Bytes },
		"no kind":        func(d *dev.Device, c *group.Chunk) { c.Stat.Kind = 0 },
		"another low":    func(d *dev.Device, c *group.Chunk) { c.Stat.Low.N-- },
		"another high":   func(d *dev.Device, c *group.Chunk) { c.Stat.High.N++ },
		"more rows":      func(d *dev.Device, c *group.Chunk) { c.Stat.Rows++ },
		"other Nulls":    func(d *dev.Device, c *group.Chunk) { c.Stat.Nulls++ },
		"a column of more": func(d *dev.Device, c *group.Chunk) {
			b, _, _ := col.Best(numbers(5, -3, 9, 9), val.Int)
			page.Write(d, 4, b)
		},
	} {
		d, c := laid(t, l)
		good := c
		p, _ := pool.New(2, 1)
		spoil(d, &c)
		if got, e := fetch.Column(d, p, c); len(got) != 0 || e != api.ErrPage || p.Pinned() != 0 {
			t.Errorf("P2001: %s: Column is %v, %v; %d Pinned", name, got, e, p.Pinned())
		}
		whole, _ := laid(t, l)
		q, _ := pool.New(2, 1)
		fetch.Column(whole, q, good)
		if _, e := fetch.Column(d, q, c); e != api.OK && q.Pins(4) != 1 {
			t.Errorf("P2001: %s: the Pin of another has gone: %d", name, q.Pins(4))
		}
	}
	d, c := laid(t, l)
	page.Write(d, 6, []byte{1})
	p, _ := pool.New(1, 1)
	p.Pin(d, ext.Ext{At: 6, N: 1})
	if got, e := fetch.Column(d, p, c); len(got) != 0 || e != api.ErrPool {
		t.Errorf("P2001: Column without a frame is %v, %v", got, e)
	}
	d.Write(4, make([]byte, 64))
	if got, e := fetch.Column(d, p, c); len(got) != 0 || e != api.ErrPool || p.Pins(6) != 1 {
		t.Errorf("P2001: Column without a frame is %v, %v", got, e)
	}
}

func TestRows(t *testing.T) {
	cols := [][]val.Val{numbers(1, 2, 3), numbers(4, 5, 6)}
	got, e := fetch.Rows(cols, []int{2, 0, 2})
	want := [][]val.Val{numbers(3, 6), numbers(1, 4), numbers(3, 6)}
	if !slices.EqualFunc(got, want, slices.Equal) || e != api.OK {
		t.Errorf("P2001: Rows is %v, %v", got, e)
	}
	got[0][0].N = 99
	if got[2][0].N != 3 || cols[0][2].N != 3 {
		t.Error("P2: rows share memory")
	}
	uneven := [][]val.Val{numbers(1, 2), numbers(3)}
	for i, c := range []struct {
		cols [][]val.Val
		at   []int
		want api.Errno
	}{
		{cols, nil, api.OK}, {nil, nil, api.OK}, {nil, []int{0}, api.ErrArg}, {[][]val.Val{nil}, []int{0}, api.ErrArg}, {uneven, nil, api.ErrLong}, {uneven, []int{9}, api.ErrLong}, {[][]val.Val{nil, numbers(1)}, nil, api.ErrLong},
		{cols, []int{3}, api.ErrArg}, {cols, []int{0, -1}, api.ErrArg}, {cols, []int{math.MaxInt}, api.ErrArg}, {cols, []int{math.MinInt}, api.ErrArg},
	} {
		if got, e := fetch.Rows(c.cols, c.at); len(got) != 0 || e != c.want {
			t.Errorf("P2001: %d: Rows is %v, %v; want %v", i, got, e, c.want)
		}
	}
}
