package group_test

import (
	"bytes"
	"math"
	"slices"
	"strings"
	"testing"

	"noria/api"
	"noria/col"
	"noria/ext"
	"noria/group"
	"noria/num"
	"noria/schema"
	"noria/stat"
	"noria/val"
)

func number(n int64) val.Val    { return val.Val{Kind: val.Int, N: n} }
func text(s string) val.Val     { return val.Val{Kind: val.Bytes, S: s} }
func spot(c complex128) val.Val { return val.Val{Kind: val.Point, C: c} }

func three() schema.Schema {
	return schema.Schema{{Name: "id", Kind: val.Int}, {Name: "word", Kind: val.Bytes}, {Name: "at", Kind: val.Point}}
}

func rows() [][]val.Val {
	return [][]val.Val{{number(1), text(strings.Repeat("b", 100)), spot(1 + 2i)}, {{}, text("a"), {}}, {number(3), {}, spot(-1)}}
}

func columns() [][]val.Val {
	l, _ := schema.Turned(three(), rows())
	return l
}

// many answers n rows of one column of words, each another one and of size bytes.
func many(n, size int) [][]val.Val {
	var out [][]val.Val
	for i := range n {
		out = append(out, []val.Val{text(string(rune('A'+i)) + strings.Repeat("x", size-1))})
	}
	return out
}

func word() schema.Schema { return schema.Schema{{Name: "word", Kind: val.Bytes}} }

func TestPages(t *testing.T) {
	pages, stats, e := group.Pages(three(), rows())
	if e != api.OK || len(pages) != 3 || len(stats) != 3 {
		t.Fatalf("P1501: Pages is %d, %d, %v", len(pages), len(stats), e)
	}
	for i, l := range columns() {
		want, _, _ := col.Best(l, i+1)
		has, _ := stat.Of(l, i+1)
		if !bytes.Equal(pages[i], want) || stats[i] != has {
			t.Errorf("P1501: column %d is %v, %v", i, pages[i], stats[i])
		}
	}
	long := []val.Val{number(1), text(strings.Repeat("a", 256)), {}}
	for i, c := range []struct {
		s    schema.Schema
		rows [][]val.Val
		want api.Errno
	}{
		{nil, nil, api.ErrLong}, {schema.Schema{{Name: "A", Kind: 1}}, nil, api.ErrName}, {three(), nil, api.ErrLong}, {three(), make([][]val.Val, 65), api.ErrLong}, {three(), [][]val.Val{{}}, api.ErrLong},
		{three(), [][]val.Val{{text("a"), {}, {}}, long}, api.ErrKind}, {three(), [][]val.Val{long}, api.ErrLong}, {word(), many(33, 255), api.ErrLong}, {word(), many(31, 255), api.OK},
	} {
		p, st, e := group.Pages(c.s, c.rows)
		if e != c.want || e != api.OK && (len(p) != 0 || len(st) != 0) {
			t.Errorf("P1501: %d: Pages is %v, want %v", i, e, c.want)
		}
	}
}

func TestTheLongestColumn(t *testing.T) {
	rows := many(64, 127)
	for size, want := range map[int]api.Errno{117: api.OK, 118: api.ErrLong} {
		rows[63] = []val.Val{text(strings.Repeat("y", size))}
		pages, _, e := group.Pages(word(), rows)
		if e != want || e == api.OK && len(pages[0]) != api.MaxPage {
			t.Errorf("P1501: Pages of a last word of %d bytes is %v", size, e)
		}
	}
}

func TestTheWidestGroup(t *testing.T) {
	g := group.Group{Rows: 1}
	for i := range 8 {
		g.Chunks = append(g.Chunks, group.Chunk{Ext: ext.Ext{At: 1024 - i, N: 1024}, Stat: stat.Stat{Kind: val.Int, Rows: 1, Nulls: 1}})
	}
	b, e := group.Put(nil, g)
	if e != api.OK {
		t.Fatalf("P1501: Put is %v", e)
	}
	if got, n, e := group.Get(b, 0); !group.Same(got, g) || n != len(b) || e != api.OK {
		t.Errorf("P1501: Get is %v, %d, %v", got, n, e)
	}
	one, _, _, e := group.Make(three(), rows()[:1], []ext.Ext{{At: 2, N: 20}})
	if e != api.OK || one.Rows != 1 || group.Check(one, three(), 30) != api.OK {
		t.Errorf("P1501: Make of one row is %v, %v", one, e)
	}
}

func TestMake(t *testing.T) {
	free := []ext.Ext{{At: 2, N: 1}, {At: 5, N: 2}, {At: 10, N: 4}}
	g, pages, left, e := group.Make(three(), rows(), free)
	wantPages, stats, _ := group.Pages(three(), rows())
	want := group.Group{Rows: 3, Chunks: []group.Chunk{{ext.Ext{At: 2, N: 1}, stats[0]}, {ext.Ext{At: 5, N: 2}, stats[1]}, {ext.Ext{At: 10, N: 1}, stats[2]}}}
	if e != api.OK || !group.Same(g, want) || !slices.Equal(left, []ext.Ext{{At: 11, N: 3}}) || !slices.EqualFunc(pages, wantPages, bytes.Equal) {
		t.Errorf("P1501: Make is %v, %v, %v", g, left, e)
	}
	if !slices.Equal(free, []ext.Ext{{At: 2, N: 1}, {At: 5, N: 2}, {At: 10, N: 4}}) {
		t.Errorf("P2: what was handed in is %v", free)
	}
	if e := group.Check(g, three(), 14); e != api.OK {
		t.Errorf("P1501: Check of Make's is %v", e)
	}
	for i, c := range []struct {
		s    schema.Schema
		rows [][]val.Val
		free []ext.Ext
		want api.Errno
	}{
		{nil, rows(), free, api.ErrLong}, {three(), nil, free, api.ErrLong}, {three(), rows(), nil, api.ErrDevice}, {three(), rows(), []ext.Ext{{At: 2, N: 3}}, api.ErrDevice}, {word(), many(33, 255), nil, api.ErrLong},
	} {
		g, pages, left, e := group.Make(c.s, c.rows, c.free)
		if e != c.want || !group.Same(g, group.Group{}) || len(pages) != 0 || len(left) != 0 {
			t.Errorf("P1501: %d: Make is %v, want %v", i, e, c.want)
		}
	}
}

func good() group.Group {
	g, _, _, _ := group.Make(three(), rows(), []ext.Ext{{At: 2, N: 20}})
	return g
}

func TestCheck(t *testing.T) {
	for i, c := range []struct {
		change func(g *group.Group)
		want   api.Errno
	}{
		{func(g *group.Group) {}, api.OK}, {func(g *group.Group) { g.Chunks, g.Rows = g.Chunks[:2], 0 }, api.ErrLong}, {func(g *group.Group) { g.Chunks = nil }, api.ErrLong}, {func(g *group.Group) { g.Chunks = append(g.Chunks, g.Chunks[0]) }, api.ErrLong},
		{func(g *group.Group) { g.Rows = 0 }, api.ErrArg}, {func(g *group.Group) { g.Rows = 65 }, api.ErrArg}, {func(g *group.Group) { g.Rows = 2 }, api.ErrArg}, {func(g *group.Group) { g.Chunks[0].Ext.At = 1 }, api.ErrArg}, {func(g *group.Group) { g.Chunks[2].Ext.N = 99 }, api.ErrArg},
		{func(g *group.Group) { g.Chunks[1].Stat.Kind = 9 }, api.ErrKind}, {func(g *group.Group) { g.Chunks[1].Stat = g.Chunks[0].Stat }, api.ErrKind}, {func(g *group.Group) { g.Chunks[0].Stat.Nulls = 9 }, api.ErrArg}, {func(g *group.Group) { g.Chunks[0].Ext = g.Chunks[1].Ext }, api.ErrTwice},
		{func(g *group.Group) { g.Chunks[1].Ext, g.Chunks[2].Stat.Kind = g.Chunks[0].Ext, 9 }, api.ErrTwice}, {func(g *group.Group) { g.Chunks[1].Ext = g.Chunks[0].Ext; g.Chunks[0].Stat.Kind = 9 }, api.ErrKind},
		{func(g *group.Group) { g.Rows, g.Chunks[1].Stat.Kind = 2, 9 }, api.ErrArg}, {func(g *group.Group) { g.Chunks[0].Stat.Kind, g.Chunks[0].Ext.N = 9, 0 }, api.ErrArg}, {func(g *group.Group) { g.Chunks[0].Stat = stat.Stat{Kind: 2, Rows: 9, Nulls: 9} }, api.ErrKind},
	} {
		g := good()
		c.change(&g)
		if e := group.Check(g, three(), 10); e != c.want {
			t.Errorf("P1501: %d: Check is %v, want %v", i, e, c.want)
		}
	}
	if e := group.Check(good(), three(), 4); e != api.ErrArg {
		t.Errorf("P1501: Check of few blocks is %v", e)
	}
}

func TestPutAndGet(t *testing.T) {
	g := good()
	want := []byte{9, 3, 3}
	for _, c := range g.Chunks {
		want, _ = stat.Put(num.Put(num.Put(want, uint64(c.Ext.At)), uint64(c.Ext.N)), c.Stat)
	}
	b, e := group.Put([]byte{9}, g)
	if !bytes.Equal(b, want) || e != api.OK {
		t.Errorf("P1501: Put is %v, %v", b, e)
	}
	got, n, e := group.Get(append(b, 1), 1)
	if !group.Same(got, g) || n != len(b)-1 || e != api.OK {
		t.Errorf("P1501: Get is %v, %d, %v", got, n, e)
	}
	for cut := 1; cut < len(b); cut++ {
		if got, n, e := group.Get(b[:cut], 1); !group.Same(got, group.Group{}) || n != 0 || e != api.ErrShort {
			t.Errorf("P1501: Get of %d bytes is %v, %d, %v", cut, got, n, e)
		}
	}
	bare := group.Group{Rows: 64}
	if b, e := group.Put(nil, bare); !bytes.Equal(b, []byte{64, 0}) || e != api.OK {
		t.Errorf("P1501: Put without Chunks is %v, %v", b, e)
	}
	if got, n, e := group.Get([]byte{64, 0}, 0); !group.Same(got, bare) || n != 2 || e != api.OK {
		t.Errorf("P1501: Get without Chunks is %v, %d, %v", got, n, e)
	}
}

func TestPutRefuses(t *testing.T) {
	for i, c := range []struct {
		change func(g *group.Group)
		want   api.Errno
	}{
		{func(g *group.Group) { g.Chunks, g.Rows = make([]group.Chunk, 9), 0 }, api.ErrLong}, {func(g *group.Group) { g.Rows = 0 }, api.ErrArg}, {func(g *group.Group) { g.Rows = 65 }, api.ErrArg}, {func(g *group.Group) { g.Rows = -1 }, api.ErrArg},
		{func(g *group.Group) { g.Chunks[1].Ext.At = -1 }, api.ErrArg}, {func(g *group.Group) { g.Chunks[1].Ext.N = 1025 }, api.ErrArg}, {func(g *group.Group) { g.Chunks[1].Ext.N = math.MinInt }, api.ErrArg}, {func(g *group.Group) { g.Chunks[2].Stat.Kind = 9 }, api.ErrKind},
		{func(g *group.Group) { g.Chunks[0].Stat.Kind, g.Chunks[1].Ext.N = 9, -1 }, api.ErrKind}, {func(g *group.Group) { g.Chunks[0].Stat.Kind, g.Chunks[0].Ext.N = 9, -1 }, api.ErrArg},
	} {
		g, room := good(), bytes.Repeat([]byte{7}, 99)
		c.change(&g)
		b, e := group.Put(room[:2], g)
		if !bytes.Equal(b, []byte{7, 7}) || e != c.want {
			t.Errorf("P1501: %d: Put is %v, %v; want %v", i, b, e, c.want)
		}
		b[0] = 1
		if !bytes.Equal(room, bytes.Repeat([]byte{7}, 99)) {
			t.Errorf("P2: %d: what was handed in is %v", i, room)
		}
	}
	g := good()
	g.Chunks[0].Ext = ext.Ext{At: 1024, N: 0}
	if _, e := group.Put(nil, g); e != api.OK {
		t.Errorf("P1501: Put of the furthest place is %v", e)
	}
}

func TestGetRefuses(t *testing.T) {
	for i, c := range []struct {
		b    []byte
		at   int
		want api.Errno
	}{
		{nil, -1, api.ErrArg}, {nil, 1, api.ErrArg}, {nil, 0, api.ErrShort}, {[]byte{128, 0}, 0, api.ErrForm}, {[]byte{0}, 0, api.ErrArg}, {[]byte{65}, 0, api.ErrArg}, {[]byte{255, 255, 255, 255, 255, 255, 255, 255, 255, 1}, 0, api.ErrArg},
		{[]byte{1}, 0, api.ErrShort}, {[]byte{1, 9}, 0, api.ErrLong}, {[]byte{1, 128, 0}, 0, api.ErrForm}, {[]byte{1, 1, 129, 8}, 0, api.ErrShort}, {[]byte{1, 1, 129, 8, 1}, 0, api.ErrArg}, {[]byte{1, 1, 1, 129, 8}, 0, api.ErrArg},
		{[]byte{1, 1, 129, 8, 128, 0}, 0, api.ErrForm}, {[]byte{1, 1, 128, 8, 0, 9, 0, 0}, 0, api.ErrKind}, {[]byte{1, 1, 2, 1, 1, 65, 65}, 0, api.ErrArg}, {[]byte{1, 1, 2, 1, 9}, 0, api.ErrShort},
	} {
		if g, n, e := group.Get(c.b, c.at); !group.Same(g, group.Group{}) || n != 0 || e != c.want {
			t.Errorf("P1501: %d: Get is %v, %d, %v; want %v", i, g, n, e, c.want)
		}
	}
}

func TestSame(t *testing.T) {
	for i, change := range []func(g *group.Group){
		func(g *group.Group) { g.Rows++ }, func(g *group.Group) { g.Chunks = g.Chunks[:2] }, func(g *group.Group) { g.Chunks[1].Ext.At++ }, func(g *group.Group) { g.Chunks[1].Ext.N++ }, func(g *group.Group) { g.Chunks[2].Stat.Nulls++ },
	} {
		g := good()
		change(&g)
		if group.Same(g, good()) || group.Same(good(), g) {
			t.Errorf("P1501: %d is the Same", i)
		}
	}
	if !group.Same(good(), good()) || !group.Same(group.Group{}, group.Group{Chunks: []group.Chunk{}}) {
		t.Error("P1501: not the Same")
	}
}
