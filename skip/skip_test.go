package skip_test

import (
	"math"
	"testing"

	"noria/api"
	"noria/group"
	"noria/point"
	"noria/pred"
	"noria/skip"
	"noria/stat"
	"noria/val"
)

type P = pred.Pred

func number(n int64) val.Val    { return val.Val{Kind: val.Int, N: n} }
func text(s string) val.Val     { return val.Val{Kind: val.Bytes, S: s} }
func spot(c complex128) val.Val { return val.Val{Kind: val.Point, C: c} }

func of(t *testing.T, kind int, l ...val.Val) stat.Stat {
	t.Helper()
	s, e := stat.Of(l, kind)
	if e != api.OK {
		t.Fatal(e)
	}
	return s
}

const f, tr, u = 1, 2, 4

func TestMayOfAValue(t *testing.T) {
	null := val.Val{}
	ints, one, holed, nulls := of(t, val.Int, number(3), number(7)), of(t, val.Int, number(5)), of(t, val.Int, null, number(3), number(7)), of(t, val.Int, null)
	words, point1, points := of(t, val.Bytes, text("b"), text("d"), null), of(t, val.Point, spot(2i)), of(t, val.Point, spot(-1-1i), spot(3+3i))
	is := func(op int, v val.Val) P { return P{Op: op, V: v} }
	in := func(low, high complex128) P { return P{Op: pred.In, Box: point.Box{Low: low, High: high}} }
	for i, c := range []struct {
		p    P
		s    stat.Stat
		want int
	}{
		{is(pred.Eq, number(2)), ints, f}, {is(pred.Eq, number(3)), ints, f | tr}, {is(pred.Eq, number(5)), ints, f | tr}, {is(pred.Eq, number(8)), ints, f}, {is(pred.Eq, number(5)), one, tr}, {is(pred.Eq, number(5)), holed, f | tr | u}, {is(pred.Eq, number(5)), nulls, u},
		{is(pred.Ne, number(2)), ints, tr}, {is(pred.Ne, number(7)), ints, f | tr}, {is(pred.Ne, number(5)), one, f}, {is(pred.Ne, number(4)), one, tr},
		{is(pred.Lt, number(3)), ints, f}, {is(pred.Lt, number(4)), ints, f | tr}, {is(pred.Lt, number(7)), ints, f | tr}, {is(pred.Lt, number(8)), ints, tr},
		{is(pred.Le, number(2)), ints, f}, {is(pred.Le, number(3)), ints, f | tr}, {is(pred.Le, number(6)), ints, f | tr}, {is(pred.Le, number(7)), ints, tr}, {is(pred.Le, number(7)), holed, tr | u},
		{is(pred.Gt, number(7)), ints, f}, {is(pred.Gt, number(6)), ints, f | tr}, {is(pred.Gt, number(3)), ints, f | tr}, {is(pred.Gt, number(2)), ints, tr},
		{is(pred.Ge, number(8)), ints, f}, {is(pred.Ge, number(7)), ints, f | tr}, {is(pred.Ge, number(4)), ints, f | tr}, {is(pred.Ge, number(3)), ints, tr}, {is(pred.Ge, number(math.MinInt64)), nulls, u},
		{is(pred.Eq, text("c")), words, f | tr | u}, {is(pred.Lt, text("b\x00")), words, f | tr | u}, {is(pred.Lt, text("b")), words, f | u}, {is(pred.Gt, text("d")), words, f | u}, {is(pred.Ge, text("")), words, tr | u},
		{is(pred.Eq, spot(2i)), point1, tr}, {is(pred.Ne, spot(2i)), point1, f}, {is(pred.Eq, spot(0)), points, f | tr}, {is(pred.Eq, spot(4)), points, f}, {is(pred.Ne, spot(4)), points, tr}, {is(pred.Ne, spot(-1-1i)), points, f | tr},
		{in(-1-1i, 3+3i), points, tr}, {in(-9-9i, 9+9i), points, tr}, {in(0, 1), points, f | tr}, {in(3+3i, 9+9i), points, f | tr}, {in(4, 9+9i), points, f}, {in(-9-9i, 9), points, f | tr}, {in(-9-9i, -1-1i), points, f | tr}, {in(0, 3i), point1, tr}, {in(0, 0), point1, f},
		{P{Op: pred.IsNull}, ints, f}, {P{Op: pred.IsNull}, holed, f | tr}, {P{Op: pred.IsNull}, nulls, tr}, {P{Op: pred.IsNull}, points, f}, {P{Op: pred.All}, nulls, tr}, {in(0, 1), of(t, val.Point, null, null), u}, {in(-9-9i, 9+9i), of(t, val.Point, null, spot(1)), tr | u},
	} {
		if got := skip.May(c.p, []stat.Stat{c.s}); got != c.want {
			t.Errorf("P2101: %d: May is %d, want %d", i, got, c.want)
		}
		q := c.p
		if q.Op != pred.All {
			q.Col = 1
		}
		if got := skip.May(q, []stat.Stat{of(t, val.Int, number(1)), c.s}); got != c.want {
			t.Errorf("P2101: %d: May of the second column is %d, want %d", i, got, c.want)
		}
		g := group.Group{Rows: c.s.Rows, Chunks: []group.Chunk{{Stat: c.s}}}
		if got := skip.Group(c.p, g); got != (c.want&tr != 0) {
			t.Errorf("P2101: %d: Group is %v", i, got)
		}
	}
}

// tells answers Preds of which outcomes as the index' bits tell may be, of ones.
func tells(t *testing.T) ([]stat.Stat, map[int]P) {
	s := []stat.Stat{of(t, val.Int, val.Val{}, number(1), number(5)), of(t, val.Int, number(1), number(1), number(5))}
	return s, map[int]P{
		f: {Op: pred.IsNull, Col: 1}, tr: {Op: pred.All}, f | tr: {Op: pred.IsNull}, f | u: {Op: pred.Eq, V: number(9)}, tr | u: {Op: pred.Ne, V: number(9)}, f | tr | u: {Op: pred.Eq, V: number(5)},
	}
}

func TestMayOfKids(t *testing.T) {
	s, all := tells(t)
	and := [3][3]int{{0, 0, 0}, {0, 1, 2}, {0, 2, 2}}
	or := [3][3]int{{0, 1, 2}, {1, 1, 1}, {2, 1, 2}}
	for a, p := range all {
		if got := skip.May(p, s); got != a {
			t.Fatalf("P2101: May is %d, want %d", got, a)
		}
		if got, want := skip.May(P{Op: pred.Not, Kids: []P{p}}, s), a&u|a&f<<1|a&tr>>1; got != want {
			t.Errorf("P2101: May of Not of %d is %d", a, got)
		}
		for b, q := range all {
			wantAnd, wantOr := 0, 0
			for x := range 3 {
				for y := range 3 {
					if a>>x&1 == 1 && b>>y&1 == 1 {
						wantAnd |= 1 << and[x][y]
						wantOr |= 1 << or[x][y]
					}
				}
			}
			if got := skip.May(P{Op: pred.And, Kids: []P{p, q}}, s); got != wantAnd {
				t.Errorf("P2101: May of And of %d, %d is %d", a, b, got)
			}
			if got := skip.May(P{Op: pred.Or, Kids: []P{p, q}}, s); got != wantOr {
				t.Errorf("P2101: May of Or of %d, %d is %d", a, b, got)
			}
			if got := skip.May(P{Op: pred.Or, Kids: []P{p, q, p}}, s); got&^7 != 0 || got == 0 {
				t.Errorf("P2101: May of Or of three is %d", got)
			}
		}
	}
}

func TestMayOfTheDeepest(t *testing.T) {
	s, all := tells(t)
	for a, p := range all {
		for range 7 {
			p = P{Op: pred.Not, Kids: []P{p}}
		}
		if got, want := skip.May(p, s), a&u|a&f<<1|a&tr>>1; got != want {
			t.Errorf("P2101: May of seven Nots of %d is %d, want %d", a, got, want)
		}
	}
}

func TestMayOfNoRows(t *testing.T) {
	none := []stat.Stat{{Kind: val.Int}}
	for _, p := range []P{{Op: pred.All}, {Op: pred.IsNull}, {Op: pred.Eq, V: number(0)}, {Op: pred.Not, Kids: []P{{Op: pred.All}}}, {Op: pred.Or, Kids: []P{{Op: pred.All}, {Op: pred.All}}}} {
		if got := skip.May(p, none); got != 0 {
			t.Errorf("P2101: May of no rows is %d", got)
		}
		if skip.Group(p, group.Group{Chunks: []group.Chunk{{Stat: none[0]}}}) {
			t.Error("P2101: Group of no rows")
		}
	}
}

func TestEvalIsAmongMay(t *testing.T) {
	seed := uint32(3)
	next := func(n int) int {
		seed = seed*1664525 + 1013904223
		return int(seed>>16) % n
	}
	value := func(kind int) val.Val {
		switch kind {
		case val.Int:
			return number(int64(next(5)))
		case val.Bytes:
			return text("abcde"[next(4) : 4+next(2)])
		}
		return spot(complex(float64(next(3)), float64(next(3))))
	}
	var make func(depth int) P
	make = func(depth int) P {
		switch n := next(10); {
		case depth > 0 && n < 2:
			return P{Op: pred.And + next(2), Kids: []P{make(depth - 1), make(depth - 1), make(depth - 1)}}
		case depth > 0 && n < 4:
			return P{Op: pred.Not, Kids: []P{make(depth - 1)}}
		case n < 5:
			return P{Op: pred.IsNull, Col: next(3)}
		case n < 6:
			low := spot(complex(float64(next(3)), float64(next(3)))).C
			return P{Op: pred.In, Col: 2, Box: point.Box{Low: low, High: low + complex(float64(next(3)), float64(next(3)))}}
		}
		col := next(3)
		if col == 2 {
			return P{Op: pred.Eq + next(2), Col: 2, V: value(val.Point)}
		}
		return P{Op: pred.Eq + next(6), Col: col, V: value(col + 1)}
	}
	for range 3000 {
		n := 1 + next(4)
		cols := [3][]val.Val{}
		var l []stat.Stat
		for i := range cols {
			for range n {
				v := val.Val{}
				if next(4) > 0 {
					v = value(i + 1)
				}
				cols[i] = append(cols[i], v)
			}
			l = append(l, of(t, i+1, cols[i]...))
		}
		p := make(3)
		may := skip.May(p, l)
		for k := range n {
			row := []val.Val{cols[0][k], cols[1][k], cols[2][k]}
			if got := pred.Eval(p, row); may>>got&1 != 1 {
				t.Fatalf("P2102: %v of %v is %d, not among %d", p, row, got, may)
			}
		}
	}
}

func TestWildCallsEnd(t *testing.T) {
	deep := P{Op: pred.All}
	for range 5000 {
		deep = P{Op: pred.Not, Kids: []P{deep}}
	}
	for _, p := range []P{{}, {Op: 99}, {Op: pred.IsNull, Col: -1}, {Op: pred.Eq, Col: math.MaxInt}, {Op: pred.And}, deep} {
		skip.May(p, nil)
		skip.May(p, []stat.Stat{{Kind: 9, Rows: -5, Nulls: 3}})
		skip.May(p, []stat.Stat{{Kind: val.Int, Rows: 5}, {}})
		skip.Group(p, group.Group{})
	}
}
