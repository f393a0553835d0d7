package pred_test

import (
	"math"
	"slices"
	"strings"
	"testing"

	"noria/api"
	"noria/point"
	"noria/pred"
	"noria/schema"
	"noria/val"
)

type P = pred.Pred

func number(n int64) val.Val    { return val.Val{Kind: val.Int, N: n} }
func text(s string) val.Val     { return val.Val{Kind: val.Bytes, S: s} }
func spot(c complex128) val.Val { return val.Val{Kind: val.Point, C: c} }

func all() P            { return P{Op: pred.All} }
func not(p P) P         { return P{Op: pred.Not, Kids: []P{p}} }
func and(l ...P) P      { return P{Op: pred.And, Kids: l} }
func or(l ...P) P       { return P{Op: pred.Or, Kids: l} }
func null(col int) P    { return P{Op: pred.IsNull, Col: col} }
func times(n int) (l P) { return P{Op: pred.And, Kids: slices.Repeat([]P{all()}, n)} }

func deep(n int) P {
	p := all()
	for range n - 1 {
		p = not(p)
	}
	return p
}

func three() schema.Schema {
	return schema.Schema{{Name: "id", Kind: val.Int}, {Name: "word", Kind: val.Bytes}, {Name: "at", Kind: val.Point}}
}

func TestCheck(t *testing.T) {
	box := point.Box{Low: -1, High: 1}
	long := text(strings.Repeat("a", 256))
	for i, c := range []struct {
		p    P
		want api.Errno
	}{
		{all(), api.OK}, {null(2), api.OK}, {P{Op: pred.Eq, V: number(1)}, api.OK}, {P{Op: pred.Ge, Col: 1, V: text("")}, api.OK}, {P{Op: pred.Ne, Col: 2, V: spot(1)}, api.OK}, {P{Op: pred.Eq, Col: 2, V: spot(1)}, api.OK},
		{P{Op: pred.In, Col: 2, Box: box}, api.OK}, {times(2), api.OK}, {times(8), api.OK}, {deep(8), api.OK}, {or(all(), deep(7)), api.OK}, {P{Op: pred.In, Col: 2}, api.OK},
		{deep(9), api.ErrDeep}, {and(P{Op: 99}, deep(8)), api.ErrDeep}, {P{Op: 99, Kids: []P{deep(8)}}, api.ErrDeep}, {deep(100000), api.ErrDeep},
		{P{}, api.ErrArg}, {P{Op: -1}, api.ErrArg}, {P{Op: 13}, api.ErrArg}, {times(0), api.ErrArg}, {times(1), api.ErrArg}, {times(9), api.ErrArg}, {or(all()), api.ErrArg}, {P{Op: pred.Not}, api.ErrArg}, {P{Op: pred.Not, Kids: []P{all(), all()}}, api.ErrArg},
		{P{Op: pred.All, Kids: []P{all()}}, api.ErrArg}, {P{Op: pred.All, Col: 1}, api.ErrArg}, {P{Op: pred.All, V: number(0)}, api.ErrArg}, {P{Op: pred.All, Box: box}, api.ErrArg}, {P{Op: pred.IsNull, Col: 9, V: number(1)}, api.ErrArg},
		{P{Op: pred.IsNull, Box: box}, api.ErrArg}, {P{Op: pred.Eq, Col: 9, V: number(1), Box: box}, api.ErrArg}, {P{Op: pred.Eq, V: number(1), Kids: []P{all()}}, api.ErrArg}, {P{Op: pred.In, Col: 2, V: spot(0), Box: box}, api.ErrArg},
		{P{Op: pred.Not, Col: 1, Kids: []P{all()}}, api.ErrArg}, {P{Op: pred.And, V: val.Val{S: "a"}, Kids: []P{all(), all()}}, api.ErrArg}, {P{Op: pred.Or, Box: box, Kids: []P{all(), all()}}, api.ErrArg},
		{P{Op: pred.All, Box: point.Box{Low: complex(math.NaN(), 0)}}, api.ErrArg},
		{null(3), api.ErrName}, {null(-1), api.ErrName}, {P{Op: pred.Eq, Col: 3}, api.ErrName}, {P{Op: pred.In, Col: -1, Box: point.Box{Low: 1}}, api.ErrName}, {null(math.MaxInt), api.ErrName},
		{P{Op: pred.Eq}, api.ErrKind}, {P{Op: pred.Eq, V: text("a")}, api.ErrKind}, {P{Op: pred.Lt, Col: 1, V: long}, api.ErrKind}, {P{Op: pred.Eq, V: val.Val{Kind: 9}}, api.ErrKind}, {P{Op: pred.Eq, V: val.Val{Kind: 1, S: "a"}}, api.ErrKind},
		{P{Op: pred.Lt, Col: 2, V: spot(1)}, api.ErrKind}, {P{Op: pred.Le, Col: 2, V: spot(1)}, api.ErrKind}, {P{Op: pred.Gt, Col: 2, V: spot(1)}, api.ErrKind}, {P{Op: pred.Ge, Col: 2, V: spot(1)}, api.ErrKind}, {P{Op: pred.Eq, Col: 2, V: spot(0.5)}, api.ErrKind},
		{P{Op: pred.In, Box: point.Box{Low: 1}}, api.ErrKind}, {P{Op: pred.In, Col: 1, Box: box}, api.ErrKind},
		{P{Op: pred.In, Col: 2, Box: point.Box{Low: 1}}, api.ErrArg}, {P{Op: pred.In, Col: 2, Box: point.Box{Low: 1i}}, api.ErrArg}, {P{Op: pred.In, Col: 2, Box: point.Box{High: 0.5}}, api.ErrArg}, {P{Op: pred.In, Col: 2, Box: point.Box{High: api.MaxPart + 1}}, api.ErrArg},
		{and(null(9), P{Op: 99}), api.ErrName}, {and(all(), P{Op: 99}, null(9)), api.ErrArg}, {and(not(null(9)), P{Op: 99}), api.ErrName}, {P{Op: pred.Not, Col: 1, Kids: []P{null(9)}}, api.ErrArg},
	} {
		if e := pred.Check(c.p, three()); e != c.want {
			t.Errorf("P1101: %d: Check is %v, want %v", i, e, c.want)
		}
	}
	if e := pred.Check(null(0), nil); e != api.ErrName {
		t.Errorf("P1101: Check of no columns is %v", e)
	}
}

func TestEvalOfAValue(t *testing.T) {
	for order, wants := range map[int64][6]int{4: {0, 1, 1, 1, 0, 0}, 5: {1, 0, 0, 1, 0, 1}, 6: {0, 1, 0, 0, 1, 1}} {
		for i, want := range wants {
			if got := pred.Eval(P{Op: pred.Eq + i, Col: 1, V: number(5)}, []val.Val{{}, number(order)}); got != want {
				t.Errorf("P1101: Op %d of %d is %d", pred.Eq+i, order, got)
			}
			if got := pred.Eval(P{Op: pred.Eq + i, V: number(5)}, []val.Val{{}}); got != pred.Unknown {
				t.Errorf("P1101: Op %d of a Null is %d", pred.Eq+i, got)
			}
		}
	}
	if got := pred.Eval(P{Op: pred.Lt, V: text("b")}, []val.Val{text("ab")}); got != pred.True {
		t.Errorf("P1101: Lt of bytes is %d", got)
	}
	box := P{Op: pred.In, Box: point.Box{Low: -1 - 1i, High: 2 + 2i}}
	for c, want := range map[complex128]int{0: pred.True, 2 + 2i: pred.True, -1 - 1i: pred.True, 3: pred.False, -2i: pred.False} {
		if got := pred.Eval(box, []val.Val{spot(c)}); got != want {
			t.Errorf("P1101: In of %v is %d", c, got)
		}
		if got := pred.Eval(P{Op: pred.Eq, V: spot(2 + 2i)}, []val.Val{spot(c)}); (got == pred.True) != (c == 2+2i) {
			t.Errorf("P1101: Eq of %v is %d", c, got)
		}
	}
	if got := pred.Eval(box, []val.Val{{}}); got != pred.Unknown {
		t.Errorf("P1101: In of a Null is %d", got)
	}
	if a, b := pred.Eval(null(0), []val.Val{{}}), pred.Eval(null(0), []val.Val{number(0)}); a != pred.True || b != pred.False {
		t.Errorf("P1101: IsNull is %d, %d", a, b)
	}
}

func TestEvalOfKids(t *testing.T) {
	tells := []P{not(all()), all(), {Op: pred.Eq, V: number(1)}}
	row := []val.Val{{}}
	for a, p := range tells {
		if got := pred.Eval(p, row); got != a {
			t.Fatalf("P1101: %d tells %d", a, got)
		}
		if got, want := pred.Eval(not(p), row), [3]int{1, 0, 2}[a]; got != want {
			t.Errorf("P1101: Not of %d is %d", a, got)
		}
		for b, q := range tells {
			wantAnd := [3][3]int{{0, 0, 0}, {0, 1, 2}, {0, 2, 2}}[a][b]
			wantOr := [3][3]int{{0, 1, 2}, {1, 1, 1}, {2, 1, 2}}[a][b]
			if got := pred.Eval(and(p, q), row); got != wantAnd {
				t.Errorf("P1101: And of %d, %d is %d", a, b, got)
			}
			if got := pred.Eval(or(p, q), row); got != wantOr {
				t.Errorf("P1101: Or of %d, %d is %d", a, b, got)
			}
			if got := pred.Eval(and(all(), p, q), row); got != wantAnd {
				t.Errorf("P1101: And of True, %d, %d is %d", a, b, got)
			}
		}
	}
	if got := pred.Eval(deep(8), row); got != pred.False {
		t.Errorf("P1101: seven Nots of All are %d", got)
	}
}

func TestWildCallsEnd(t *testing.T) {
	wild := []P{{}, {Op: 99}, null(-1), null(9), {Op: pred.Not}, times(0), deep(100000), {Op: pred.In, Col: math.MinInt}}
	for _, p := range wild {
		pred.Eval(p, []val.Val{number(1)})
		pred.Cols(p)
	}
}

func TestColsDepthSame(t *testing.T) {
	p := or(null(5), and(P{Op: pred.In, Col: 2}, not(P{Op: pred.Eq, Col: 7, V: number(1)})), P{Op: pred.Ge, Col: 5, V: number(1)}, all())
	if got := pred.Cols(p); !slices.Equal(got, []int{2, 5, 7}) {
		t.Errorf("P1101: Cols is %v", got)
	}
	if got := pred.Cols(all()); len(got) != 0 {
		t.Errorf("P1101: Cols of All is %v", got)
	}
	for want, q := range map[int]P{1: all(), 2: times(5), 4: p, 9: deep(9), 100000: deep(100000), 3: {Op: 99, Kids: []P{{}, {Kids: []P{{}}}}}} {
		if got := pred.Depth(q); got != want {
			t.Errorf("P1101: Depth is %d, want %d", got, want)
		}
		if !pred.Same(q, q) {
			t.Errorf("P1101: %d deep is not the Same as itself", want)
		}
	}
	base := P{Op: pred.Not, Col: 1, V: number(2), Box: point.Box{Low: 1, High: 2}, Kids: []P{null(1)}}
	for i, change := range []func(p *P){
		func(p *P) { p.Op++ }, func(p *P) { p.Col++ }, func(p *P) { p.V.N++ }, func(p *P) { p.V.S = "a" }, func(p *P) { p.Box.Low = 5 }, func(p *P) { p.Box.High = 5i },
		func(p *P) { p.Kids = nil }, func(p *P) { p.Kids = []P{null(2)} }, func(p *P) { p.Kids = []P{null(1), null(1)} },
	} {
		other := base
		change(&other)
		if pred.Same(base, other) || pred.Same(other, base) {
			t.Errorf("P1101: %d is the Same", i)
		}
	}
	if !pred.Same(P{Kids: nil}, P{Kids: []P{}}) {
		t.Error("P2: no Kids and an empty list of Kids are not the Same")
	}
}
