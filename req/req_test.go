package req_test

import (
	"math"
	"strings"
	"testing"

	"noria/api"
	"noria/point"
	"noria/pred"
	"noria/req"
	"noria/val"
)

type P = pred.Pred

func number(n int64) val.Val    { return val.Val{Kind: val.Int, N: n} }
func text(s string) val.Val     { return val.Val{Kind: val.Bytes, S: s} }
func spot(c complex128) val.Val { return val.Val{Kind: val.Point, C: c} }
func all() P                    { return P{Op: pred.All} }

func deep(n int) P {
	p := all()
	for range n - 1 {
		p = P{Op: pred.Not, Kids: []P{p}}
	}
	return p
}

func nots(n int, inner string) string {
	return strings.Repeat("not(", n) + inner + strings.Repeat(")", n)
}

func preds() map[string]P {
	eight := P{Op: pred.Or}
	for range 8 {
		eight.Kids = append(eight.Kids, all())
	}
	return map[string]P{
		"all": all(), "null 0": {Op: pred.IsNull}, "null 9223372036854775807": {Op: pred.IsNull, Col: math.MaxInt64}, "= 3 -5": {Op: pred.Eq, Col: 3, V: number(-5)}, "!= 0 \"6162": {Op: pred.Ne, V: text("ab")},
		"< 1 -": {Op: pred.Lt, Col: 1}, "<= 1 3-4i": {Op: pred.Le, Col: 1, V: spot(3 - 4i)}, "> 1 \"": {Op: pred.Gt, Col: 1, V: text("")}, ">= 10 0": {Op: pred.Ge, Col: 10, V: number(0)},
		"in 2 -1-1i 3+4i": {Op: pred.In, Col: 2, Box: point.Box{Low: -1 - 1i, High: 3 + 4i}}, "in 0 5+0i 0+0i": {Op: pred.In, Box: point.Box{Low: 5}},
		"and(all;null 1)": {Op: pred.And, Kids: []P{all(), {Op: pred.IsNull, Col: 1}}}, "or(and(all;all);not(= 0 1);all)": {Op: pred.Or, Kids: []P{{Op: pred.And, Kids: []P{all(), all()}}, {Op: pred.Not, Kids: []P{{Op: pred.Eq, V: number(1)}}}, all()}},
		"or(all;all;all;all;all;all;all;all)": eight, nots(7, "all"): deep(8),
	}
}

func reqs() map[string]req.Req {
	out := map[string]req.Req{
		"fetch 0": {Kind: req.Fetch}, "fetch 12": {Kind: req.Fetch, Cursor: 12}, "shut 9223372036854775807": {Kind: req.Shut, Cursor: math.MaxInt64}, "count": {Kind: req.Count},
		"append 1": {Kind: req.Append, Rows: [][]val.Val{{number(1)}}}, "append 1,\"61,-;3+4i;-,-": {Kind: req.Append, Rows: [][]val.Val{{number(1), text("a"), {}}, {spot(3 + 4i)}, {{}, {}}}},
		"open a,a,bcdefghi all": {Kind: req.Open, Cols: []string{"a", "a", "bcdefghi"}, Pred: all()}, "open " + strings.Repeat("z,", 20) + "z all": {Kind: req.Open, Cols: strings.Split(strings.Repeat("z,", 20)+"z", ","), Pred: all()},
	}
	for s, p := range preds() {
		out["open id "+s] = req.Req{Kind: req.Open, Cols: []string{"id"}, Pred: p}
	}
	return out
}

func TestTextAndParse(t *testing.T) {
	for s, r := range reqs() {
		if got, e := req.Text(r); got != s || e != api.OK {
			t.Errorf("P2501: Text of %v is %q, %v", r, got, e)
		}
		if got, e := req.Parse(s); !req.Same(got, r) || e != api.OK {
			t.Errorf("P2501: Parse of %q is %v, %v", s, got, e)
		}
		for _, other := range []string{" " + s, s + " ", s + ")", s + ";", s + ",", strings.Replace(s, " ", "  ", 1) + " "} {
			if got, e := req.Parse(other); e == api.OK || !req.Same(got, req.Req{}) {
				t.Errorf("P2501: Parse of %q is %v, %v", other, got, e)
			}
		}
	}
	for s, p := range preds() {
		if got := req.PredText(p); got != s {
			t.Errorf("P2501: PredText of %v is %q", p, got)
		}
		if got, e := req.PredParse(s); !pred.Same(got, p) || e != api.OK {
			t.Errorf("P2501: PredParse of %q is %v, %v", s, got, e)
		}
	}
}

func open(p P) req.Req { return req.Req{Kind: req.Open, Cols: []string{"a"}, Pred: p} }

func TestTextRefuses(t *testing.T) {
	long := text(strings.Repeat("a", 256))
	row := [][]val.Val{{number(1)}}
	kids := func(n int) []P { return append([]P{}, make([]P, n)...) }
	for i, c := range []struct {
		r    req.Req
		want api.Errno
	}{
		{req.Req{}, api.ErrArg}, {req.Req{Kind: 6}, api.ErrArg}, {req.Req{Kind: -1}, api.ErrArg}, {req.Req{Kind: req.Count, Cursor: 1}, api.ErrArg}, {req.Req{Kind: req.Count, Cols: []string{"A"}}, api.ErrArg}, {req.Req{Kind: req.Count, Pred: all()}, api.ErrArg}, {req.Req{Kind: req.Count, Rows: row}, api.ErrArg},
		{req.Req{Kind: req.Fetch, Cursor: -1}, api.ErrArg}, {req.Req{Kind: req.Shut, Cursor: math.MinInt}, api.ErrArg}, {req.Req{Kind: req.Fetch, Rows: row}, api.ErrArg}, {req.Req{Kind: req.Shut, Cols: []string{"a"}}, api.ErrArg}, {req.Req{Kind: req.Shut, Pred: deep(9)}, api.ErrArg},
		{req.Req{Kind: req.Append}, api.ErrArg}, {req.Req{Kind: req.Append, Rows: [][]val.Val{{long}, {}}}, api.ErrArg}, {req.Req{Kind: req.Append, Rows: row, Cursor: 1}, api.ErrArg}, {req.Req{Kind: req.Append, Rows: row, Pred: all()}, api.ErrArg}, {req.Req{Kind: req.Append, Rows: row, Cols: []string{"a"}}, api.ErrArg},
		{req.Req{Kind: req.Append, Rows: [][]val.Val{{number(1), long}, {{N: 1}}}}, api.ErrLong}, {req.Req{Kind: req.Append, Rows: [][]val.Val{{{N: 1}}, {long}}}, api.ErrArg}, {req.Req{Kind: req.Append, Rows: [][]val.Val{{{Kind: 9}}}}, api.ErrKind},
		{req.Req{Kind: req.Open, Pred: all()}, api.ErrArg}, {req.Req{Kind: req.Open, Cols: []string{"A"}, Pred: all(), Rows: row}, api.ErrArg}, {req.Req{Kind: req.Open, Cols: []string{"A"}, Pred: all(), Cursor: 1}, api.ErrArg},
		{req.Req{Kind: req.Open, Cols: []string{"a", ""}, Pred: deep(9)}, api.ErrName}, {req.Req{Kind: req.Open, Cols: []string{"abcdefghi"}}, api.ErrName}, {req.Req{Kind: req.Open, Cols: []string{"a1"}}, api.ErrName}, {req.Req{Kind: req.Open, Cols: []string{"a b"}}, api.ErrName},
		{open(deep(9)), api.ErrDeep}, {open(P{Op: 99, Kids: []P{deep(8)}}), api.ErrDeep}, {open(P{}), api.ErrArg}, {open(P{Op: 13}), api.ErrArg}, {open(P{Op: pred.And, Kids: []P{all()}}), api.ErrArg}, {open(P{Op: pred.Or, Kids: kids(9)}), api.ErrArg}, {open(P{Op: pred.Not, Kids: kids(2)}), api.ErrArg}, {open(P{Op: pred.Not}), api.ErrArg},
		{open(P{Op: pred.All, Kids: []P{all()}}), api.ErrArg}, {open(P{Op: pred.IsNull, Col: -1}), api.ErrArg}, {open(P{Op: pred.Eq, Col: -1, V: long}), api.ErrArg}, {open(P{Op: pred.In, Box: point.Box{Low: 0.5}}), api.ErrArg}, {open(P{Op: pred.In, Box: point.Box{High: api.MaxPart + 1}}), api.ErrArg}, {open(P{Op: pred.All, Col: 1}), api.ErrArg},
		{open(P{Op: pred.IsNull, V: number(1)}), api.ErrArg}, {open(P{Op: pred.Eq, Box: point.Box{Low: 1}}), api.ErrArg}, {open(P{Op: pred.In, V: number(0)}), api.ErrArg}, {open(P{Op: pred.Not, Col: 1, Kids: []P{all()}}), api.ErrArg}, {open(P{Op: pred.Eq, V: long}), api.ErrLong}, {open(P{Op: pred.Eq, V: val.Val{Kind: 9}}), api.ErrKind},
		{open(P{Op: pred.Eq, V: val.Val{N: 1}}), api.ErrArg}, {open(P{Op: pred.And, Kids: []P{{Op: pred.Eq, V: long}, {}}}), api.ErrLong}, {open(P{Op: pred.And, Kids: []P{{}, {Op: pred.Eq, V: long}}}), api.ErrArg}, {open(P{Op: pred.Or, Kids: []P{{Op: pred.Not, Kids: []P{{Op: pred.Eq, V: val.Val{Kind: 9}}}}, {}}}), api.ErrKind},
	} {
		if s, e := req.Text(c.r); s != "" || e != c.want {
			t.Errorf("P2501: %d: Text is %q, %v; want %v", i, s, e, c.want)
		}
	}
	for _, p := range []P{{}, {Op: 99}, deep(9), {Op: pred.Eq, V: long}, {Op: pred.Not}} {
		req.PredText(p)
	}
}

func TestParseRefuses(t *testing.T) {
	big, long := "9223372036854775808", `"`+strings.Repeat("61", 256)
	for s, want := range map[string]api.Errno{
		"": api.ErrForm, "x": api.ErrForm, "Count": api.ErrForm, "count 1": api.ErrForm, "counts": api.ErrForm, "fetch": api.ErrForm, "fetch ": api.ErrForm, "fetch x": api.ErrForm, "fetch -1": api.ErrForm, "fetch 01": api.ErrForm, "fetch 00": api.ErrForm, "fetch +1": api.ErrForm, "fetch 1a1": api.ErrForm,
		"fetch " + big: api.ErrArg, "shut 99999999999999999999999": api.ErrArg, "shut " + big + " ": api.ErrArg, "shut " + big + "x": api.ErrForm, "fetch  1": api.ErrForm, "fetch 1,2": api.ErrForm, "fetch(1)": api.ErrForm,
		"append": api.ErrForm, "append ": api.ErrForm, "append ,": api.ErrForm, "append 1,": api.ErrForm, "append 1;": api.ErrForm, "append 1;;2": api.ErrForm, "append 1 2": api.ErrForm, "append 1)": api.ErrForm, "append 1,x;" + big: api.ErrForm, "append " + big + ",x": api.ErrArg, "append 1," + long + ",x": api.ErrLong, "append 1;2," + long: api.ErrLong,
		"append 1048577+0i": api.ErrArg, "append \"6": api.ErrForm, "append (": api.ErrForm, "append " + big + " x": api.ErrArg,
		"open": api.ErrForm, "open ": api.ErrForm, "open a": api.ErrForm, "open a ": api.ErrForm, "open  all": api.ErrForm, "open a, all": api.ErrForm, "open ,a all": api.ErrForm, "open A all": api.ErrForm, "open abcdefghi all": api.ErrForm, "open a;b all": api.ErrForm, "open a  all": api.ErrForm, "open a1 all": api.ErrForm, "open a(b all": api.ErrForm,
		"open A = " + big: api.ErrForm, "open a = " + big: api.ErrArg, "open a all all": api.ErrForm, "open a all)": api.ErrForm, "open a all;all": api.ErrForm,
	} {
		if r, e := req.Parse(s); !req.Same(r, req.Req{}) || e != want {
			t.Errorf("P2501: Parse of %q is %v, %v; want %v", s, r, e, want)
		}
	}
	for s, want := range map[string]api.Errno{
		"": api.ErrForm, "al": api.ErrForm, "alll": api.ErrForm, "all ": api.ErrForm, "all(": api.ErrForm, "null": api.ErrForm, "null ": api.ErrForm, "null -1": api.ErrForm, "null x": api.ErrForm, "null " + big: api.ErrArg, "null 1 ": api.ErrForm, "null(1)": api.ErrForm, "== 1 1": api.ErrForm, "=1 1": api.ErrForm, "= 1": api.ErrForm, "= 1 ": api.ErrForm,
		"= 1 x": api.ErrForm, "= " + big + " x": api.ErrArg, "= x " + big: api.ErrForm, "= 1 " + big: api.ErrArg, "= " + big + ",1": api.ErrArg, "= 1 " + long: api.ErrLong, "= 1 1 1": api.ErrForm, "= 01 1": api.ErrForm, "in 1 1+1i": api.ErrForm, "in 1 1+1i ": api.ErrForm, "in 1 1 1": api.ErrForm, "in 1 - -": api.ErrForm,
		"in 1 1048577+0i x": api.ErrArg, "in 1 x 1048577+0i": api.ErrForm, "in 1 1+1i 0+1048577i": api.ErrArg, "in 1 " + long + " 1+1i": api.ErrForm, "in 1  1+1i 1+1i": api.ErrForm,
		"and": api.ErrForm, "and(": api.ErrForm, "and()": api.ErrForm, "and(all)": api.ErrForm, "or(all)": api.ErrForm, "and(all": api.ErrForm, "and(all;": api.ErrForm, "and(all;all": api.ErrForm, "and(all;)": api.ErrForm, "and(;all)": api.ErrForm, "and(all,all)": api.ErrForm, "and(all; all)": api.ErrForm, "and(all;all))": api.ErrForm, "and (all;all)": api.ErrForm,
		"not()": api.ErrForm, "not(all;all)": api.ErrForm, "not(all;null " + big + ")": api.ErrArg, "not(all;all;= 1 " + long + ")": api.ErrLong, "and(all;all;all;all;all;all;all;all;all)": api.ErrForm, "and(all;all;all;all;all;all;all;all;null " + big + ")": api.ErrArg, "and(null " + big: api.ErrArg, "and(all);null " + big: api.ErrForm,
		nots(8, "all"): api.ErrDeep, strings.Repeat("not(", 8): api.ErrDeep, strings.Repeat("not(", 8) + "x": api.ErrDeep, strings.Repeat("not(", 8) + ")": api.ErrDeep, strings.Repeat("not(", 7) + "and(": api.ErrDeep, strings.Repeat("not(", 7) + "not": api.ErrForm, strings.Repeat("not(", 7): api.ErrForm,
		strings.Repeat("not(", 100000): api.ErrDeep, "x(" + strings.Repeat("not(", 9): api.ErrForm, "and(x;" + nots(9, "all") + ")": api.ErrForm, "and(" + nots(8, "all") + ";x)": api.ErrDeep, "and(" + nots(6, "all") + ";" + nots(7, "all") + ")": api.ErrDeep,
	} {
		if p, e := req.PredParse(s); !pred.Same(p, P{}) || e != want {
			t.Errorf("P2501: PredParse of %.60q is %v, %v; want %v", s, p, e, want)
		}
		if r, e := req.Parse("open a " + s); !req.Same(r, req.Req{}) || e != want {
			t.Errorf("P2501: Parse of %.60q is %v, %v; want %v", s, r, e, want)
		}
	}
	if _, e := req.PredParse("and(" + nots(6, "all") + ";all)"); e != api.OK {
		t.Errorf("P2501: PredParse of the deepest is %v", e)
	}
}

func TestSame(t *testing.T) {
	base := func() req.Req {
		return req.Req{Kind: 9, Cursor: 3, Cols: []string{"a", "b"}, Pred: P{Op: 99, Kids: []P{all()}}, Rows: [][]val.Val{{number(1)}, {number(2)}}}
	}
	for i, change := range []func(r *req.Req){
		func(r *req.Req) { r.Kind++ }, func(r *req.Req) { r.Cursor++ }, func(r *req.Req) { r.Cols[1] = "c" }, func(r *req.Req) { r.Cols = nil }, func(r *req.Req) { r.Pred.Kids[0].Col++ }, func(r *req.Req) { r.Rows[1][0].N++ }, func(r *req.Req) { r.Rows = r.Rows[:1] }, func(r *req.Req) { r.Rows[0] = nil },
	} {
		r := base()
		change(&r)
		if req.Same(r, base()) || req.Same(base(), r) {
			t.Errorf("P2501: %d is the Same", i)
		}
	}
	if !req.Same(base(), base()) || !req.Same(req.Req{}, req.Req{Cols: []string{}, Rows: [][]val.Val{}, Pred: P{Kids: []P{}}}) {
		t.Error("P2501: not the Same")
	}
}
