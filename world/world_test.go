package world_test

import (
	"math"
	"slices"
	"testing"

	"noria/api"
	"noria/cursor"
	"noria/foot"
	"noria/req"
	"noria/schema"
	"noria/serve"
	"noria/val"
	"noria/world"
)

type A = world.Act

func number(n int64) val.Val { return val.Val{Kind: val.Int, N: n} }

func one() schema.Schema { return schema.Schema{{Name: "id", Kind: val.Int}} }

func conf() serve.Conf { return serve.Conf{Frames: 4, K: 2} }

func made(t *testing.T) *world.World {
	t.Helper()
	w, e := world.New(60, one(), conf())
	if e != api.OK || w.Down() || w.Server() == nil {
		t.Fatalf("P2701: New is %v", e)
	}
	return w
}

func parsed(t *testing.T, words string) req.Req {
	t.Helper()
	r, e := req.Parse(words)
	if e != api.OK {
		t.Fatalf("%q: %v", words, e)
	}
	return r
}

func same(a, b world.Event) bool {
	return a.Op == b.Op && a.A == b.A && a.Err == b.Err && a.Done == b.Done && serve.SameResp(a.Resp, b.Resp)
}

// do does a, and tells where something else comes of it.
func do(t *testing.T, w *world.World, a A, want world.Event) {
	t.Helper()
	want.Op = a.Op
	if got := w.Do(a); !same(got, want) {
		t.Errorf("P2701: %q: %v, want %v", a.Op, got, want)
	}
}

// asked asks and finishes.
func asked(t *testing.T, w *world.World, id int, words string, want serve.Resp) {
	t.Helper()
	r := parsed(t, words)
	want.Kind = r.Kind
	do(t, w, A{Op: "ask", A: id, Req: r}, world.Event{A: id})
	do(t, w, A{Op: "finish", A: id}, world.Event{A: id, Done: true, Resp: want})
}

func TestNew(t *testing.T) {
	for i, c := range []struct {
		blocks int
		s      schema.Schema
		c      serve.Conf
		want   api.Errno
	}{{3, nil, serve.Conf{}, api.ErrArg}, {40, nil, serve.Conf{}, api.ErrLong}, {40, schema.Schema{{Name: "A", Kind: 1}}, serve.Conf{}, api.ErrName}, {40, one(), serve.Conf{}, api.ErrArg}} {
		if w, e := world.New(c.blocks, c.s, c.c); w != nil || e != c.want {
			t.Errorf("P2701: %d: New is %v", i, e)
		}
		if l, e := world.Run(c.blocks, c.s, c.c, []A{{Op: "enter"}}); len(l) != 0 || e != c.want {
			t.Errorf("P2701: %d: Run is %v, %v", i, l, e)
		}
	}
}

func TestActs(t *testing.T) {
	w := made(t)
	for id := 1; id <= 16; id++ {
		do(t, w, A{Op: "enter", A: 77}, world.Event{A: id})
	}
	do(t, w, A{Op: "enter", A: 77}, world.Event{Err: api.ErrMany})
	do(t, w, A{Op: "leave", A: 16}, world.Event{A: 16})
	do(t, w, A{Op: "leave", A: 16}, world.Event{A: 16, Err: api.ErrHandle})
	do(t, w, A{Op: "ask", A: 16}, world.Event{A: 16, Err: api.ErrHandle})
	do(t, w, A{Op: "step", A: -5}, world.Event{A: -5, Err: api.ErrHandle})
	do(t, w, A{Op: "finish", A: math.MaxInt}, world.Event{A: math.MaxInt, Err: api.ErrHandle})
	do(t, w, A{Op: "step", A: 1}, world.Event{A: 1, Err: api.ErrState})
	do(t, w, A{Op: "finish", A: 1}, world.Event{A: 1, Err: api.ErrState})
	do(t, w, A{Op: "start", A: 9}, world.Event{A: 9, Err: api.ErrState})
	for _, op := range []string{"", "Enter", "enter ", "stop"} {
		do(t, w, A{Op: op, A: 5}, world.Event{A: 5, Err: api.ErrName})
	}
	do(t, w, A{Op: "ask", A: 1, Req: parsed(t, "append 1;2")}, world.Event{A: 1})
	do(t, w, A{Op: "ask", A: 1}, world.Event{A: 1, Err: api.ErrBusy})
	for range 6 {
		do(t, w, A{Op: "step", A: 1}, world.Event{A: 1})
	}
	do(t, w, A{Op: "leave", A: 1}, world.Event{A: 1, Err: api.ErrBusy})
	do(t, w, A{Op: "step", A: 1}, world.Event{A: 1, Done: true, Resp: serve.Resp{Kind: req.Append, Rows: 2}})
	asked(t, w, 2, "open id > 0 1", serve.Resp{Cursor: 1})
	asked(t, w, 2, "fetch 1", serve.Resp{Batch: cursor.Batch{Rows: [][]val.Val{{number(2)}}}})
	asked(t, w, 2, "fetch 1", serve.Resp{End: true})
	asked(t, w, 2, "fetch 2", serve.Resp{Err: api.ErrHandle})
	if !slices.Equal(w.Server().Cursors(), []int{1}) {
		t.Errorf("P2701: the cursors are %v", w.Server().Cursors())
	}
}

func TestFinishHasAnEnd(t *testing.T) {
	w := made(t)
	w.Do(A{Op: "enter"})
	w.Do(A{Op: "enter"})
	w.Do(A{Op: "ask", A: 1, Req: parsed(t, "append 1")})
	w.Do(A{Op: "step", A: 1})
	do(t, w, A{Op: "ask", A: 2, Req: parsed(t, "append 2")}, world.Event{A: 2})
	do(t, w, A{Op: "finish", A: 2}, world.Event{A: 2})
	do(t, w, A{Op: "finish", A: 1}, world.Event{A: 1, Done: true, Resp: serve.Resp{Kind: req.Append, Rows: 1}})
	do(t, w, A{Op: "finish", A: 2}, world.Event{A: 2, Done: true, Resp: serve.Resp{Kind: req.Append, Rows: 2}})
}

func TestCrashAndStart(t *testing.T) {
	w := made(t)
	w.Do(A{Op: "enter"})
	asked(t, w, 1, "append 1", serve.Resp{Rows: 1})
	asked(t, w, 1, "open id all", serve.Resp{Cursor: 1})
	w.Do(A{Op: "ask", A: 1, Req: parsed(t, "append 2")})
	for range 6 {
		w.Do(A{Op: "step", A: 1})
	}
	gone, kept := w.Twin(), w.Twin()
	do(t, gone, A{Op: "crash", A: 7}, world.Event{A: 7})
	do(t, kept, A{Op: "crash", Keep: []bool{true}}, world.Event{})
	for want, w := range map[int]*world.World{1: gone, 2: kept} {
		if !w.Down() || w.Server() != nil {
			t.Error("P2701: it is not Down")
		}
		for _, op := range []string{"enter", "leave", "ask", "step", "finish", "crash"} {
			do(t, w, A{Op: op, A: 1}, world.Event{A: 1, Err: api.ErrDown})
		}
		do(t, w, A{Op: "stop", A: 1}, world.Event{A: 1, Err: api.ErrName})
		twin := w.Twin()
		if !twin.Down() {
			t.Error("P2701: the Twin is not Down")
		}
		for _, one := range []*world.World{w, twin} {
			if !one.Down() {
				t.Error("P2701: the Twin is not by itself")
			}
			do(t, one, A{Op: "start", A: 3}, world.Event{A: 3})
			if one.Down() || len(one.Server().Sessions()) != 0 || len(one.Server().Cursors()) != 0 {
				t.Error("P2701: behind start")
			}
			do(t, one, A{Op: "enter"}, world.Event{A: 1})
			asked(t, one, 1, "count", serve.Resp{Rows: want})
			asked(t, one, 1, "open id all", serve.Resp{Cursor: 1})
		}
	}
	if w.Down() {
		t.Error("P2701: the Twin is not by itself")
	}
	do(t, w, A{Op: "step", A: 1}, world.Event{A: 1, Done: true, Resp: serve.Resp{Kind: req.Append, Rows: 2}})
}

func TestStartOfWhatIsTorn(t *testing.T) {
	w := made(t)
	d := w.Server().Table().Device()
	d.Write(1, make([]byte, 64))
	do(t, w, A{Op: "crash", Keep: []bool{true}}, world.Event{})
	for range 2 {
		do(t, w, A{Op: "start"}, world.Event{Err: api.ErrFooter})
		if !w.Down() {
			t.Error("P2701: it is not Down any more")
		}
	}
}

func TestRunDoesWhatDoDoes(t *testing.T) {
	acts := []A{{Op: "enter"}, {Op: "ask", A: 1, Req: parsed(t, "append 1;2;3")}, {Op: "finish", A: 1}, {Op: "ask", A: 1, Req: parsed(t, "open id < 0 3")}, {Op: "step", A: 1}, {Op: "ask", A: 1, Req: parsed(t, "fetch 1")}, {Op: "step", A: 1}, {Op: "finish", A: 1},
		{Op: "crash"}, {Op: "enter"}, {Op: "start"}, {Op: "x"}, {Op: "enter"}, {Op: "ask", A: 1, Req: parsed(t, "count")}, {Op: "finish", A: 1}}
	w := made(t)
	var want []world.Event
	for _, a := range acts {
		want = append(want, w.Do(a))
	}
	for range 2 {
		got, e := world.Run(60, one(), conf(), acts)
		if e != api.OK || !slices.EqualFunc(got, want, same) {
			t.Errorf("P2701: Run is %v, %v; want %v", got, e, want)
		}
	}
	if got := want[len(want)-1].Resp; got.Rows != 3 {
		t.Errorf("P2701: the last answer is %v", got)
	}
}

func TestTwin(t *testing.T) {
	w := made(t)
	w.Do(A{Op: "enter"})
	asked(t, w, 1, "append 1", serve.Resp{Rows: 1})
	twin := w.Twin()
	asked(t, twin, 1, "append 2", serve.Resp{Rows: 2})
	if foot.Rows(w.Server().Table().Foot()) != 1 || twin.Server().Table().Device() == w.Server().Table().Device() {
		t.Error("P2701: the Twin is not by itself")
	}
	do(t, twin, A{Op: "crash"}, world.Event{})
	do(t, twin, A{Op: "start"}, world.Event{})
	do(t, twin, A{Op: "enter"}, world.Event{A: 1})
	asked(t, twin, 1, "count", serve.Resp{Rows: 2})
	asked(t, w, 1, "count", serve.Resp{Rows: 1})
}
