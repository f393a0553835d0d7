package table_test

import (
	"bytes"
	"math"
	"slices"
	"strings"
	"testing"

	"noria/api"
	"noria/col"
	"noria/dev"
	"noria/foot"
	"noria/group"
	"noria/page"
	"noria/pub"
	"noria/schema"
	"noria/super"
	"noria/table"
	"noria/val"
)

func number(n int64) val.Val { return val.Val{Kind: val.Int, N: n} }
func text(s string) val.Val  { return val.Val{Kind: val.Bytes, S: s} }

func two() schema.Schema {
	return schema.Schema{{Name: "id", Kind: val.Int}, {Name: "word", Kind: val.Bytes}}
}

func rows(n int) [][]val.Val {
	var out [][]val.Val
	for i := range n {
		out = append(out, []val.Val{number(int64(i * n)), text(strings.Repeat("w", i))})
	}
	return out
}

func created(t *testing.T, blocks int) *table.Table {
	t.Helper()
	tb, e := table.Create(blocks, two())
	if e != api.OK {
		t.Fatalf("P2401: Create is %v", e)
	}
	return tb
}

func begun(t *testing.T, tb *table.Table, n, steps int) *pub.Pub {
	t.Helper()
	p, e := tb.Begin(rows(n))
	if e != api.OK {
		t.Fatalf("P2401: Begin is %v", e)
	}
	for range steps {
		p.Step()
	}
	return p
}

func appended(t *testing.T, tb *table.Table, n int) {
	t.Helper()
	if e := tb.Commit(begun(t, tb, n, 6)); e != api.OK {
		t.Fatalf("P2401: Commit is %v", e)
	}
}

func same(a, b [][]val.Val) bool { return slices.EqualFunc(a, b, slices.Equal) }

func TestCreateAndOpen(t *testing.T) {
	tb := created(t, 40)
	if f := tb.Foot(); !foot.Same(f, foot.Foot{Epoch: 1, Schema: two()}) || tb.Device().Blocks() != 40 {
		t.Errorf("P2401: Create makes %v", f)
	}
	for i, c := range []struct {
		blocks int
		s      schema.Schema
		want   api.Errno
	}{{3, nil, api.ErrArg}, {1025, two(), api.ErrArg}, {40, nil, api.ErrLong}, {40, schema.Schema{{Name: "A", Kind: 1}}, api.ErrName}} {
		if tb, e := table.Create(c.blocks, c.s); tb != nil || e != c.want {
			t.Errorf("P2401: %d: Create is %v", i, e)
		}
	}
	d, _ := dev.New(8)
	if tb, e := table.Open(d); tb != nil || e != api.ErrFooter {
		t.Errorf("P2401: Open of nothing is %v", e)
	}
	appended(t, tb, 3)
	again, e := table.Open(tb.Device())
	if e != api.OK || !foot.Same(again.Foot(), tb.Foot()) || again.Device() != tb.Device() {
		t.Errorf("P2401: Open is %v", e)
	}
}

func TestFootIsACopy(t *testing.T) {
	tb := created(t, 40)
	appended(t, tb, 3)
	f := tb.Foot()
	f.Schema[0].Name, f.Groups[0].Rows, f.Groups[0].Chunks[0].Ext.At = "x", 9, 9
	if g := tb.Foot(); g.Schema[0].Name != "id" || g.Groups[0].Rows != 3 || g.Groups[0].Chunks[0].Ext.At == 9 {
		t.Errorf("P2401: Foot is %v", g)
	}
}

func TestBeginAndCommit(t *testing.T) {
	tb := created(t, 60)
	for i, c := range []struct {
		rows [][]val.Val
		want api.Errno
	}{{nil, api.ErrLong}, {rows(65), api.ErrLong}, {[][]val.Val{{text("a"), {}}}, api.ErrKind}} {
		if p, e := tb.Begin(c.rows); p != nil || e != c.want {
			t.Errorf("P2401: %d: Begin is %v", i, e)
		}
	}
	if e := tb.Commit(nil); e != api.ErrState {
		t.Errorf("P2401: Commit of none is %v", e)
	}
	for steps := range 6 {
		twin := tb.Twin()
		if e := twin.Commit(begun(t, twin, 4, steps)); e != api.ErrState || twin.Foot().Epoch != 1 {
			t.Errorf("P2401: Commit behind %d Steps is %v", steps, e)
		}
	}
	p := begun(t, tb, 4, 6)
	_, want := p.Result()
	if e := tb.Commit(p); e != api.OK || !foot.Same(tb.Foot(), want) {
		t.Errorf("P2401: Commit is %v; %v", e, tb.Foot())
	}
	if e := tb.Commit(p); e != api.ErrState || !foot.Same(tb.Foot(), want) {
		t.Errorf("P2401: Commit once more is %v", e)
	}
	twin := tb.Twin()
	appended(t, twin, 2)
	late := begun(t, twin, 5, 6)
	if e := tb.Commit(late); e != api.ErrState || tb.Foot().Epoch != 2 {
		t.Errorf("P2401: Commit of a later Epoch is %v", e)
	}
	appended(t, tb, 5)
	if s, f, e := super.Find(tb.Device()); s.Epoch != 3 || !foot.Same(f, tb.Foot()) || e != api.OK {
		t.Errorf("P2401: Find is %v, %v", s, e)
	}
	for i, n := range []int{4, 5} {
		if got, e := tb.Read(i); !same(got, rows(n)) || e != api.OK {
			t.Errorf("P2401: Read of %d is %v, %v", i, got, e)
		}
	}
}

func TestManyGroups(t *testing.T) {
	tb := created(t, 1024)
	for range 64 {
		appended(t, tb, 1)
	}
	if p, e := tb.Begin(nil); p != nil || e != api.ErrMany {
		t.Errorf("P2401: Begin of one more is %v", e)
	}
	if got, e := tb.Read(63); !same(got, rows(1)) || e != api.OK {
		t.Errorf("P2401: Read is %v, %v", got, e)
	}
}

func TestRead(t *testing.T) {
	tb := created(t, 60)
	appended(t, tb, 4)
	appended(t, tb, 20)
	for _, g := range []int{-1, 2, math.MaxInt, math.MinInt} {
		if got, e := tb.Read(g); len(got) != 0 || e != api.ErrArg {
			t.Errorf("P2401: Read of %d is %v, %v", g, got, e)
		}
	}
	chunks := tb.Foot().Groups[0].Chunks
	for name, spoil := range map[string]func(d *dev.Device, c group.Chunk){
		"a torn page": func(d *dev.Device, c group.Chunk) { d.Write(c.Ext.At, bytes.Repeat([]byte{1}, 64)) },
		"no column":   func(d *dev.Device, c group.Chunk) { page.Write(d, c.Ext.At, []byte{9, 9}) },
		"more rows": func(d *dev.Device, c group.Chunk) {
			b, _, _ := col.Best(make([]val.Val, 5), c.Stat.Kind)
			page.Write(d, c.Ext.At, b)
		},
		"other values": func(d *dev.Device, c group.Chunk) {
			b, _, _ := col.Best(make([]val.Val, 4), c.Stat.Kind)
			page.Write(d, c.Ext.At, b)
		},
		"a page of others": func(d *dev.Device, c group.Chunk) { page.Write(d, c.Ext.At, nil) },
	} {
		for i, c := range chunks {
			twin := tb.Twin()
			spoil(twin.Device(), c)
			if got, e := twin.Read(0); len(got) != 0 || e != api.ErrPage {
				t.Errorf("P2401: %s: Read of column %d is %v, %v", name, i, got, e)
			}
			if got, e := twin.Read(1); !same(got, rows(20)) || e != api.OK {
				t.Errorf("P2401: %s: Read of another group is %v", name, e)
			}
		}
	}
}

func TestTwin(t *testing.T) {
	tb := created(t, 60)
	appended(t, tb, 4)
	twin := tb.Twin()
	appended(t, twin, 5)
	if len(tb.Foot().Groups) != 1 || len(twin.Foot().Groups) != 2 || twin.Device() == tb.Device() {
		t.Error("P2401: the Twin is not by itself")
	}
	appended(t, tb, 6)
	for n, one := range map[int]*table.Table{5: twin, 6: tb} {
		if got, e := one.Read(1); !same(got, rows(n)) || e != api.OK {
			t.Errorf("P2401: Read is %v, %v", got, e)
		}
	}
}
