package cursor_test

import (
	"math"
	"slices"
	"testing"

	"noria/api"
	"noria/cursor"
	"noria/ext"
	"noria/foot"
	"noria/group"
	"noria/pass"
	"noria/point"
	"noria/pred"
	"noria/schema"
	"noria/val"
)

type P = pred.Pred

func number(n int64) val.Val    { return val.Val{Kind: val.Int, N: n} }
func spot(c complex128) val.Val { return val.Val{Kind: val.Point, C: c} }

func three() schema.Schema {
	return schema.Schema{{Name: "id", Kind: val.Int}, {Name: "at", Kind: val.Point}, {Name: "to", Kind: val.Point}}
}

func row(n int64, a, b complex128) []val.Val { return []val.Val{number(n), spot(a), spot(b)} }

func rows() [][][]val.Val {
	return [][][]val.Val{
		{row(1, 1, 1i), row(2, 2, 2i)},
		{row(5, 5+1i, 0), {number(6), {}, spot(7)}},
		{{{}, spot(1), {}}},
		{row(9, 9, 9i), row(2, 1i, -1)},
	}
}

// footer answers a Foot whose groups have these rows.
func footer(t *testing.T, rows [][][]val.Val) foot.Foot {
	t.Helper()
	f, free := foot.Foot{Epoch: 1, Schema: three()}, []ext.Ext{{At: 2, N: 999}}
	for _, l := range rows {
		g, _, left, e := group.Make(three(), l, free)
		if e != api.OK {
			t.Fatal(e)
		}
		f.Groups, free = append(f.Groups, g), left
	}
	return f
}

func opened(t *testing.T, f foot.Foot, p *pass.Pass, q P, cols ...string) cursor.Cursor {
	t.Helper()
	c, e := cursor.Open(f, p, cols, q)
	if e != api.OK {
		t.Fatalf("P2301: Open is %v", e)
	}
	return c
}

func less(n int64) P { return P{Op: pred.Lt, V: number(n)} }
func all() P         { return P{Op: pred.All} }

func TestOpen(t *testing.T) {
	f, p := footer(t, rows()), pass.New(true)
	p.Did(2)
	q := P{Op: pred.And, Kids: []P{less(3), {Op: pred.IsNull, Col: 2}}}
	c := opened(t, f, p, q, "to", "id")
	if !schema.Same(c.Schema, three()) || !slices.EqualFunc(c.Groups, f.Groups, group.Same) || !slices.Equal(c.Cols, []int{2, 0}) || !pred.Same(c.Pred, q) || c.Round != (pass.Round{From: 2, N: 4}) {
		t.Errorf("P2301: Open is %v", c)
	}
	c.Groups[0].Chunks[0].Ext.At, c.Schema[0].Name, c.Pred.Kids[0].Op = 99, "x", 99
	if f.Groups[0].Chunks[0].Ext.At == 99 || f.Schema[0].Name == "x" || q.Kids[0].Op == 99 {
		t.Error("P2: a Cursor shares memory with what was handed in")
	}
	deep := all()
	for range 8 {
		deep = P{Op: pred.Not, Kids: []P{deep}}
	}
	for i, c := range []struct {
		cols []string
		q    P
		want api.Errno
	}{
		{nil, P{Op: 99}, api.ErrArg}, {make([]string, 9), P{Op: 99}, api.ErrArg}, {make([]string, 8), P{Op: 99}, api.ErrName}, {[]string{"id", "x", "id"}, all(), api.ErrName}, {[]string{"id", "id", "x"}, deep, api.ErrTwice},
		{[]string{"id"}, deep, api.ErrDeep}, {[]string{"id"}, P{}, api.ErrArg}, {[]string{"id"}, P{Op: pred.IsNull, Col: 3}, api.ErrName}, {[]string{"id"}, P{Op: pred.Eq, V: spot(1)}, api.ErrKind},
	} {
		got, e := cursor.Open(f, p, c.cols, c.q)
		if e != c.want || len(got.Groups) != 0 || len(got.Schema) != 0 || len(got.Cols) != 0 || !pred.Same(got.Pred, P{}) || got.Round != (pass.Round{}) {
			t.Errorf("P2301: %d: Open is %v, %v; want %v", i, got, e, c.want)
		}
		if l, e := cursor.Model(f, nil, c.cols, c.q); len(l) != 0 || e != c.want {
			t.Errorf("P2301: %d: Model is %v, %v; want %v", i, l, e, c.want)
		}
	}
}

func TestNeeds(t *testing.T) {
	f, p := footer(t, rows()), pass.New(false)
	for i, c := range []struct {
		q    P
		cols []string
		want []int
	}{
		{all(), []string{"to", "id"}, []int{0, 2}}, {less(3), []string{"to"}, []int{0, 2}}, {P{Op: pred.Or, Kids: []P{less(3), {Op: pred.IsNull, Col: 2}}}, []string{"at", "id"}, []int{0, 1, 2}}, {all(), []string{"at"}, []int{1}},
	} {
		if got := cursor.Needs(opened(t, f, p, c.q, c.cols...)); !slices.Equal(got, c.want) {
			t.Errorf("P2301: %d: Needs is %v", i, got)
		}
	}
}

// visited answers all groups that a Cursor comes to.
func visited(t *testing.T, c cursor.Cursor, jump bool) []int {
	t.Helper()
	var out []int
	for {
		next, g, ok := cursor.Now(c, jump)
		if !ok {
			if g != 0 || len(next.Groups) != 0 || len(next.Cols) != 0 || next.Round != (pass.Round{}) {
				t.Errorf("P4: at the end Now is %v, %d", next, g)
			}
			return out
		}
		if at, _ := pass.Next(next.Round); at != g || !slices.Equal(next.Cols, c.Cols) || len(next.Groups) != len(c.Groups) {
			t.Errorf("P2301: Now is %v at %d", next.Round, g)
		}
		out = append(out, g)
		next.Round = pass.Step(next.Round)
		c = next
	}
}

func TestNow(t *testing.T) {
	f, p := footer(t, rows()), pass.New(true)
	p.Did(2)
	for i, c := range []struct {
		q    P
		jump bool
		want []int
	}{
		{less(3), false, []int{2, 3, 0, 1}}, {less(3), true, []int{3, 0}}, {less(1), true, nil}, {all(), true, []int{2, 3, 0, 1}}, {P{Op: pred.IsNull}, true, []int{2}},
	} {
		if got := visited(t, opened(t, f, p, c.q, "id"), c.jump); !slices.Equal(got, c.want) {
			t.Errorf("P2301: %d: the groups are %v", i, got)
		}
	}
	c := opened(t, f, p, all(), "id")
	next, _, _ := cursor.Now(c, false)
	next.Groups[0].Chunks[0].Ext.At, next.Cols[0], next.Schema[0].Name = 99, 99, "x"
	if c.Groups[0].Chunks[0].Ext.At == 99 || c.Cols[0] == 99 || c.Schema[0].Name == "x" {
		t.Error("P2: Now shares memory with what was handed in")
	}
	for _, r := range []pass.Round{{N: math.MaxInt}, {From: 3, N: 9}, {N: -1}, {Done: -1, N: 4}, {From: math.MaxInt - 1, N: math.MaxInt}} {
		for _, q := range []P{less(1), {}, {Op: pred.IsNull, Col: 99}} {
			cursor.Now(cursor.Cursor{Groups: f.Groups, Round: r, Pred: q}, true)
		}
	}
	if _, _, ok := cursor.Now(cursor.Cursor{}, false); ok {
		t.Error("P2301: Now of nothing")
	}
}

func columns(l [][]val.Val, needs ...int) [][]val.Val {
	out := make([][]val.Val, len(needs))
	for i, at := range needs {
		for _, r := range l {
			out[i] = append(out[i], r[at])
		}
	}
	return out
}

func TestMake(t *testing.T) {
	f, p := footer(t, rows()), pass.New(false)
	c := opened(t, f, p, P{Op: pred.Or, Kids: []P{less(2), {Op: pred.IsNull, Col: 1}}}, "to", "at")
	for i, want := range []cursor.Batch{
		{Group: 0, Rows: [][]val.Val{{spot(1i), spot(1)}}, Sum: 1 + 1i}, {Group: 1, Rows: [][]val.Val{{spot(7), {}}}, Sum: 7}, {Group: 2}, {Group: 3},
	} {
		got, e := cursor.Make(c, i, columns(rows()[i], 0, 1, 2))
		if !cursor.Same(got, want) || e != api.OK {
			t.Errorf("P2301: Make of %d is %v, %v", i, got, e)
		}
	}
	c = opened(t, f, p, all(), "to", "id")
	got, e := cursor.Make(c, -77, columns(rows()[0], 0, 2))
	if !cursor.Same(got, cursor.Batch{Group: -77, Rows: [][]val.Val{{spot(1i), number(1)}, {spot(2i), number(2)}}, Sum: 3i}) || e != api.OK {
		t.Errorf("P2301: Make is %v, %v", got, e)
	}
	uneven := [][]val.Val{{number(1)}, {}}
	for i, cols := range [][][]val.Val{nil, columns(rows()[0], 0), columns(rows()[0], 0, 1, 2), uneven} {
		if got, e := cursor.Make(c, 1, cols); !cursor.Same(got, cursor.Batch{}) || e != api.ErrLong {
			t.Errorf("P2301: %d: Make is %v, %v", i, got, e)
		}
	}
	for _, wild := range []cursor.Cursor{{Cols: []int{-1, math.MaxInt}}, {Cols: []int{0, 0}, Pred: P{Op: pred.IsNull, Col: 77}}, {}} {
		cursor.Make(wild, 0, uneven[:1])
		cursor.Make(wild, 0, columns(rows()[0], 0, 1))
	}
}

func TestModelIsWhatACursorDelivers(t *testing.T) {
	all4 := rows()
	f := footer(t, all4)
	for _, q := range []P{all(), less(3), less(6), less(-9), {Op: pred.Not, Kids: []P{less(3)}}, {Op: pred.In, Col: 1, Box: point.Box{Low: 0, High: 5 + 5i}}, {Op: pred.IsNull, Col: 2}} {
		for _, cols := range [][]string{{"id"}, {"to", "at"}, {"at", "id", "to"}} {
			model, e := cursor.Model(f, all4, cols, q)
			if e != api.OK {
				t.Fatalf("P2301: Model is %v", e)
			}
			for mask := range 8 {
				p := pass.New(mask&1 == 1)
				p.Did(mask >> 2 * 3)
				c := opened(t, f, p, q, cols...)
				var got []cursor.Batch
				for _, g := range visited(t, c, mask&2 == 2) {
					b, e := cursor.Make(c, g, columns(all4[g], cursor.Needs(c)...))
					if e != api.OK {
						t.Fatalf("P2301: Make is %v", e)
					}
					if len(b.Rows) > 0 {
						got = append(got, b)
					}
				}
				slices.SortFunc(got, func(a, b cursor.Batch) int { return a.Group - b.Group })
				if !slices.EqualFunc(got, model, cursor.Same) {
					t.Errorf("P2301: %v of %v: %v, Model tells %v", cols, q, got, model)
				}
			}
		}
	}
	model, _ := cursor.Model(f, all4, []string{"id"}, less(3))
	if len(model) != 2 || model[0].Group != 0 || len(model[0].Rows) != 2 || model[1].Group != 3 || model[1].Rows[0][0].N != 2 {
		t.Errorf("P2301: Model is %v", model)
	}
	for i, l := range [][][][]val.Val{nil, all4[:3], append(rows(), nil), {{{}}, nil, nil, nil}} {
		if got, e := cursor.Model(f, l, []string{"id"}, all()); len(got) != 0 || e != api.ErrLong {
			t.Errorf("P2301: %d: Model is %v, %v", i, got, e)
		}
	}
}

func TestSame(t *testing.T) {
	base := func() cursor.Batch { return cursor.Batch{Group: 1, Rows: [][]val.Val{{number(1), number(2)}}, Sum: 1i} }
	for i, change := range []func(b *cursor.Batch){
		func(b *cursor.Batch) { b.Group++ }, func(b *cursor.Batch) { b.Sum++ }, func(b *cursor.Batch) { b.Rows = nil }, func(b *cursor.Batch) { b.Rows[0][1].N++ }, func(b *cursor.Batch) { b.Rows[0] = b.Rows[0][:1] }, func(b *cursor.Batch) { b.Rows = append(b.Rows, nil) },
	} {
		b := base()
		change(&b)
		if cursor.Same(b, base()) || cursor.Same(base(), b) {
			t.Errorf("P2301: %d is the Same", i)
		}
	}
	if !cursor.Same(base(), base()) || !cursor.Same(cursor.Batch{}, cursor.Batch{Rows: [][]val.Val{}}) {
		t.Error("P2301: not the Same")
	}
}
