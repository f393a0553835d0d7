package serve_test

import (
	"math"
	"slices"
	"strings"
	"testing"

	"noria/api"
	"noria/cursor"
	"noria/foot"
	"noria/page"
	"noria/pred"
	"noria/req"
	"noria/schema"
	"noria/serve"
	"noria/table"
	"noria/val"
)

func number(n int64) val.Val    { return val.Val{Kind: val.Int, N: n} }
func text(s string) val.Val     { return val.Val{Kind: val.Bytes, S: s} }
func spot(c complex128) val.Val { return val.Val{Kind: val.Point, C: c} }

func three() schema.Schema {
	return schema.Schema{{Name: "id", Kind: val.Int}, {Name: "word", Kind: val.Bytes}, {Name: "at", Kind: val.Point}}
}

func conf() serve.Conf { return serve.Conf{Frames: 8, K: 2} }

func made(t *testing.T, blocks int, c serve.Conf) *serve.Server {
	t.Helper()
	tb, e := table.Create(blocks, three())
	if e != api.OK {
		t.Fatal(e)
	}
	s, e := serve.New(tb, c)
	if e != api.OK {
		t.Fatalf("P2601: New is %v", e)
	}
	if s.Table() != tb {
		t.Fatal("P2601: New keeps another table")
	}
	return s
}

func entered(t *testing.T, s *serve.Server) int {
	t.Helper()
	id, e := s.Enter()
	if e != api.OK {
		t.Fatalf("P2601: Enter is %v", e)
	}
	return id
}

func parsed(t *testing.T, words string) req.Req {
	t.Helper()
	r, e := req.Parse(words)
	if e != api.OK {
		t.Fatalf("%q: %v", words, e)
	}
	return r
}

func ask(t *testing.T, s *serve.Server, id int, words string) {
	t.Helper()
	if e := s.Ask(id, parsed(t, words)); e != api.OK {
		t.Fatalf("P2601: Ask of %q is %v", words, e)
	}
}

// step does one small step.
func step(t *testing.T, s *serve.Server, id int) (serve.Resp, bool) {
	t.Helper()
	r, done, e := s.Step(id)
	if e != api.OK || !done && !serve.SameResp(r, serve.Resp{}) || done == s.Busy(id) {
		t.Fatalf("P2601: Step is %v, %v, %v", r, done, e)
	}
	return r, done
}

// finish answers what is answered, and behind how many small steps.
func finish(t *testing.T, s *serve.Server, id int) (serve.Resp, int) {
	t.Helper()
	for n := 1; n < 2000; n++ {
		if r, done := step(t, s, id); done {
			return r, n
		}
	}
	t.Fatal("T4: no answer")
	return serve.Resp{}, 0
}

func asked(t *testing.T, s *serve.Server, id int, words string) serve.Resp {
	t.Helper()
	ask(t, s, id, words)
	r, _ := finish(t, s, id)
	return r
}

func want(t *testing.T, what string, got, want serve.Resp) {
	t.Helper()
	if !serve.SameResp(got, want) {
		t.Errorf("P2602: %s: %v, want %v", what, got, want)
	}
}

func TestNew(t *testing.T) {
	tb, _ := table.Create(40, three())
	for i, c := range []serve.Conf{{}, {Frames: 257, K: 1}, {Frames: 1, K: 9}, {Frames: 1}, {K: 1}, {Frames: -1, K: -1}} {
		if s, e := serve.New(tb, c); s != nil || e != api.ErrArg {
			t.Errorf("P2601: %d: New is %v", i, e)
		}
	}
}

func TestSessions(t *testing.T) {
	s := made(t, 40, conf())
	for i := 1; i <= 16; i++ {
		if id := entered(t, s); id != i {
			t.Errorf("P2601: Enter is %d, want %d", id, i)
		}
	}
	if id, e := s.Enter(); id != 0 || e != api.ErrMany {
		t.Errorf("P2601: Enter of one more is %d, %v", id, e)
	}
	for _, id := range []int{0, -1, 17, math.MaxInt, math.MinInt} {
		if e := s.Leave(id); e != api.ErrHandle {
			t.Errorf("P2601: Leave of %d is %v", id, e)
		}
		if e := s.Ask(id, req.Req{}); e != api.ErrHandle {
			t.Errorf("P2601: Ask of %d is %v", id, e)
		}
		if r, done, e := s.Step(id); !serve.SameResp(r, serve.Resp{}) || done || e != api.ErrHandle || s.Busy(id) {
			t.Errorf("P2601: Step of %d is %v, %v, %v", id, r, done, e)
		}
	}
	if e := s.Leave(5); e != api.OK || slices.Contains(s.Sessions(), 5) {
		t.Errorf("P2601: Leave is %v", e)
	}
	if e := s.Leave(5); e != api.ErrHandle {
		t.Errorf("P2601: Leave once more is %v", e)
	}
	if id := entered(t, s); id != 17 || !slices.Equal(s.Sessions(), []int{1, 2, 3, 4, 6, 7, 8, 9, 10, 11, 12, 13, 14, 15, 16, 17}) {
		t.Errorf("P2601: Enter is %d; %v", id, s.Sessions())
	}
}

func TestAskAndStep(t *testing.T) {
	s := made(t, 40, conf())
	id := entered(t, s)
	if r, done, e := s.Step(id); !serve.SameResp(r, serve.Resp{}) || done || e != api.ErrState || s.Busy(id) {
		t.Errorf("P2601: Step of nothing is %v, %v, %v", r, done, e)
	}
	ask(t, s, id, "count")
	if e := s.Ask(id, req.Req{}); e != api.ErrBusy || !s.Busy(id) {
		t.Errorf("P2601: Ask of a busy one is %v", e)
	}
	r, n := finish(t, s, id)
	want(t, "count", r, serve.Resp{Kind: req.Count})
	if n != 1 {
		t.Errorf("P2602: Count takes %d small steps", n)
	}
	for _, kind := range []int{0, 6, -1, math.MaxInt} {
		s.Ask(id, req.Req{Kind: kind})
		r, n := finish(t, s, id)
		want(t, "an unknown kind", r, serve.Resp{Kind: kind, Err: api.ErrArg})
		if n != 1 {
			t.Errorf("P2602: an unknown kind takes %d small steps", n)
		}
	}
	own := parsed(t, "append 5,\"61,1+1i")
	s.Ask(id, own)
	own.Rows[0][0].N = 9
	finish(t, s, id)
	if got, _ := s.Table().Read(0); got[0][0].N != 5 {
		t.Errorf("P2: what was asked has changed: %v", got)
	}
}

func TestOpenAndShut(t *testing.T) {
	s := made(t, 40, conf())
	a, b := entered(t, s), entered(t, s)
	deep := pred.Pred{Op: pred.All}
	for range 40 {
		deep = pred.Pred{Op: pred.Not, Kids: []pred.Pred{deep}}
	}
	for e, r := range map[api.Errno]req.Req{
		api.ErrArg: {Kind: req.Open, Pred: deep}, api.ErrName: {Kind: req.Open, Cols: []string{"id", "x", "id"}, Pred: deep}, api.ErrTwice: {Kind: req.Open, Cols: []string{"id", "id"}, Pred: deep},
		api.ErrDeep: {Kind: req.Open, Cols: []string{"id"}, Pred: deep}, api.ErrKind: parsed(t, "open id = 0 \"61"),
	} {
		s.Ask(a, r)
		got, _ := finish(t, s, a)
		want(t, "a wrong open", got, serve.Resp{Kind: req.Open, Err: e})
	}
	for i := 1; i <= 16; i++ {
		want(t, "open", asked(t, s, []int{a, b}[i%2], "open id all"), serve.Resp{Kind: req.Open, Cursor: i})
	}
	want(t, "one open more", asked(t, s, a, "open id all"), serve.Resp{Kind: req.Open, Err: api.ErrMany})
	want(t, "a wrong one more", asked(t, s, a, "open x all"), serve.Resp{Kind: req.Open, Err: api.ErrName})
	for _, words := range []string{"shut 0", "shut 1", "shut 17", "fetch 1", "fetch 0", "fetch 99"} {
		r := parsed(t, words)
		want(t, words, asked(t, s, a, words), serve.Resp{Kind: r.Kind, Err: api.ErrHandle})
	}
	want(t, "shut", asked(t, s, a, "shut 2"), serve.Resp{Kind: req.Shut})
	want(t, "shut once more", asked(t, s, a, "shut 2"), serve.Resp{Kind: req.Shut, Err: api.ErrHandle})
	want(t, "open", asked(t, s, b, "open id all"), serve.Resp{Kind: req.Open, Cursor: 17})
	if s.Leave(a); !slices.Equal(s.Cursors(), []int{1, 3, 5, 7, 9, 11, 13, 15, 17}) {
		t.Errorf("P2601: behind Leave the cursors are %v", s.Cursors())
	}
}

// filled answers a Server with a session and four groups: of ids 0 to 2, 10 to 12, 20 to 22, 30 to 32.
func filled(t *testing.T, c serve.Conf) (*serve.Server, int) {
	t.Helper()
	s := made(t, 100, c)
	id := entered(t, s)
	for g := range 4 {
		var rows [][]val.Val
		for k := range 3 {
			n := int64(10*g + k)
			rows = append(rows, []val.Val{number(n), text(strings.Repeat("w", int(n))), spot(complex(float64(n), 1))})
		}
		s.Ask(id, req.Req{Kind: req.Append, Rows: rows})
		r, n := finish(t, s, id)
		want(t, "append", r, serve.Resp{Kind: req.Append, Rows: 3 * (g + 1)})
		if n != 7 {
			t.Errorf("P2602: an Append takes %d small steps", n)
		}
	}
	want(t, "count", asked(t, s, id, "count"), serve.Resp{Kind: req.Count, Rows: 12})
	return s, id
}

func ids(l ...int64) [][]val.Val {
	var out [][]val.Val
	for _, n := range l {
		out = append(out, []val.Val{number(n)})
	}
	return out
}

func batch(group int, rows [][]val.Val, sum complex128) serve.Resp {
	return serve.Resp{Kind: req.Fetch, Batch: cursor.Batch{Group: group, Rows: rows, Sum: sum}}
}

func TestFetch(t *testing.T) {
	s, id := filled(t, conf())
	asked(t, s, id, "open id and(>= 0 1;< 0 22)")
	for g, l := range [][]int64{{1, 2}, {10, 11, 12}, {20, 21}} {
		ask(t, s, id, "fetch 1")
		r, n := finish(t, s, id)
		want(t, "fetch", r, batch(g, ids(l...), 0))
		if n != 3 || s.Pool().Pinned() != 0 {
			t.Errorf("P2602: a Fetch takes %d small steps; %d Pinned", n, s.Pool().Pinned())
		}
	}
	ask(t, s, id, "fetch 1")
	r, n := finish(t, s, id)
	want(t, "the end", r, serve.Resp{Kind: req.Fetch, End: true})
	if n != 4 {
		t.Errorf("P2602: the last Fetch takes %d small steps", n)
	}
	want(t, "the end again", asked(t, s, id, "fetch 1"), serve.Resp{Kind: req.Fetch, End: true})
	asked(t, s, id, "open at,word < 0 2")
	ask(t, s, id, "fetch 2")
	for i := range 4 {
		if got := s.Pool().Pinned(); got != max(0, i-1) {
			t.Errorf("P2602: ahead of small step %d %d are Pinned", i+1, got)
		}
		if _, done := step(t, s, id); done {
			t.Errorf("P2602: answered behind %d small steps", i+1)
		}
	}
	r, done := step(t, s, id)
	want(t, "fetch", r, batch(0, [][]val.Val{{spot(1i), text("")}, {spot(1 + 1i), text("w")}}, 1+2i))
	if !done || s.Pool().Pinned() != 0 {
		t.Errorf("P2602: %v, %d Pinned", done, s.Pool().Pinned())
	}
}

func TestJump(t *testing.T) {
	for jump, steps := range map[bool][2]int{false: {9, 4}, true: {3, 1}} {
		c := conf()
		c.Jump = jump
		s, id := filled(t, c)
		asked(t, s, id, "open id and(> 0 12;< 0 30)")
		ask(t, s, id, "fetch 1")
		r, n := finish(t, s, id)
		want(t, "fetch", r, batch(2, ids(20, 21, 22), 0))
		ask(t, s, id, "fetch 1")
		end, m := finish(t, s, id)
		want(t, "the end", end, serve.Resp{Kind: req.Fetch, End: true})
		if n != steps[0] || m != steps[1] {
			t.Errorf("P2602: with jump %v the Fetches take %d, %d small steps", jump, n, m)
		}
	}
}

func TestShare(t *testing.T) {
	for share, first := range map[bool]int{false: 0, true: 2} {
		c := conf()
		c.Share = share
		s, id := filled(t, c)
		asked(t, s, id, "open id all")
		for range 3 {
			asked(t, s, id, "fetch 1")
		}
		asked(t, s, id, "open id all")
		for i := range 4 {
			g := (first + i) % 4
			want(t, "fetch", asked(t, s, id, "fetch 2"), batch(g, ids(int64(10*g), int64(10*g+1), int64(10*g+2)), 0))
		}
		want(t, "the end", asked(t, s, id, "fetch 2"), serve.Resp{Kind: req.Fetch, End: true})
	}
}

func TestASnapshotStays(t *testing.T) {
	s, id := filled(t, conf())
	other := entered(t, s)
	asked(t, s, id, "open id all")
	asked(t, s, id, "fetch 1")
	want(t, "append", asked(t, s, other, "append 99,-,-"), serve.Resp{Kind: req.Append, Rows: 13})
	asked(t, s, other, "open id all")
	for want, cursor := range map[string]string{"3": "fetch 1", "5": "fetch 2"} {
		n := 0
		for who := map[string]int{"3": id, "5": other}[want]; !asked(t, s, who, cursor).End; {
			n++
		}
		if n != int(want[0]-'0') {
			t.Errorf("T1: %s has %d Batches more, want %s", cursor, n, want)
		}
	}
}

func TestErrorsLeaveTheCursor(t *testing.T) {
	s, id := filled(t, serve.Conf{Frames: 2, K: 1})
	chunk := s.Table().Foot().Groups[1].Chunks[1]
	d := s.Table().Device()
	good, _ := page.Read(d, chunk.Ext.At, chunk.Ext.N)
	asked(t, s, id, "open id,word >= 0 12")
	page.Write(d, chunk.Ext.At, []byte("torn"))
	for range 2 {
		ask(t, s, id, "fetch 1")
		r, _ := finish(t, s, id)
		want(t, "a torn page", r, serve.Resp{Kind: req.Fetch, Err: api.ErrPage})
		if s.Pool().Pinned() != 0 {
			t.Errorf("P2602: behind an error %d are Pinned", s.Pool().Pinned())
		}
	}
	page.Write(d, chunk.Ext.At, good)
	// What was torn is held still, till other pages need its frame.
	asked(t, s, id, "open at all")
	for range 5 {
		asked(t, s, id, "fetch 2")
	}
	r := asked(t, s, id, "fetch 1")
	want(t, "the same group again", r, batch(1, [][]val.Val{{number(12), text(strings.Repeat("w", 12))}}, 0))
}

func TestNoFrame(t *testing.T) {
	c := conf()
	c.Frames = 2
	s, a := filled(t, c)
	b := entered(t, s)
	asked(t, s, a, "open id,word all")
	asked(t, s, b, "open at,word >= 0 10")
	ask(t, s, b, "fetch 2")
	want(t, "three columns in two frames", func() serve.Resp { r, _ := finish(t, s, b); return r }(), serve.Resp{Kind: req.Fetch, Err: api.ErrPool})
	ask(t, s, a, "fetch 1")
	step(t, s, a)
	step(t, s, a)
	step(t, s, a)
	if s.Pool().Pinned() != 2 {
		t.Errorf("P2602: %d Pinned", s.Pool().Pinned())
	}
	asked(t, s, b, "open at all")
	want(t, "no frame", asked(t, s, b, "fetch 3"), serve.Resp{Kind: req.Fetch, Err: api.ErrPool})
	if e := s.Leave(a); e != api.OK || s.Pool().Pinned() != 0 {
		t.Errorf("P2601: Leave is %v; %d Pinned", e, s.Pool().Pinned())
	}
	want(t, "a frame again", asked(t, s, b, "fetch 3"), batch(0, [][]val.Val{{spot(1i)}, {spot(1 + 1i)}, {spot(2 + 1i)}}, 3+3i))
}

func TestOneAppendsAtATime(t *testing.T) {
	s := made(t, 100, conf())
	a, b, c := entered(t, s), entered(t, s), entered(t, s)
	ask(t, s, a, "append 1,-,-")
	ask(t, s, b, "append 2,-,-;3,-,-")
	ask(t, s, c, "append \"61,-,-")
	step(t, s, b)
	for range 9 {
		if _, done := step(t, s, a); done {
			t.Error("P2602: answered while another one Appends")
		}
		step(t, s, c)
	}
	for i := range 6 {
		want(t, "count", func() serve.Resp { x := entered(t, s); defer s.Leave(x); return asked(t, s, x, "count") }(), serve.Resp{Kind: req.Count})
		r, done := step(t, s, b)
		if done != (i == 5) || done && !serve.SameResp(r, serve.Resp{Kind: req.Append, Rows: 2}) {
			t.Errorf("P2602: Step %d is %v, %v", i, r, done)
		}
	}
	r, n := finish(t, s, c)
	want(t, "a wrong append", r, serve.Resp{Kind: req.Append, Err: api.ErrKind})
	if n != 1 {
		t.Errorf("P2602: a wrong Append takes %d small steps", n)
	}
	r, n = finish(t, s, a)
	want(t, "append", r, serve.Resp{Kind: req.Append, Rows: 3})
	if n != 7 {
		t.Errorf("P2602: an Append takes %d small steps", n)
	}
	if got, _ := s.Table().Read(0); !slices.Equal(got[1], []val.Val{number(3), {}, {}}) {
		t.Errorf("P2602: the first group is %v", got)
	}
}

func TestLeaveOfOneThatAppends(t *testing.T) {
	for steps := 0; steps <= 7; steps++ {
		s := made(t, 100, conf())
		a, b := entered(t, s), entered(t, s)
		ask(t, s, a, "append 1,-,-")
		for range steps {
			step(t, s, a)
		}
		e := s.Leave(a)
		if wantE := map[bool]api.Errno{true: api.ErrBusy, false: api.OK}[steps >= 2 && steps <= 6]; e != wantE {
			t.Errorf("P2601: Leave behind %d small steps is %v", steps, e)
		}
		if e == api.OK {
			rows := map[bool]int{true: 2, false: 1}[steps == 7]
			want(t, "append", asked(t, s, b, "append 2,-,-"), serve.Resp{Kind: req.Append, Rows: rows})
		}
	}
}

func TestAppendErrors(t *testing.T) {
	s := made(t, 8, conf())
	id := entered(t, s)
	for _, c := range []struct {
		r    req.Req
		want api.Errno
	}{{req.Req{Kind: req.Append}, api.ErrLong}, {req.Req{Kind: req.Append, Rows: make([][]val.Val, 65)}, api.ErrLong}, {parsed(t, "append 1"), api.ErrLong}, {parsed(t, "append -,1,-"), api.ErrKind}, {parsed(t, "append 1,\""+strings.Repeat("61", 250)+",-"), api.ErrDevice}} {
		s.Ask(id, c.r)
		r, _ := finish(t, s, id)
		want(t, "a wrong append", r, serve.Resp{Kind: req.Append, Err: c.want})
	}
	want(t, "append", asked(t, s, id, "append 1,-,-"), serve.Resp{Kind: req.Append, Rows: 1})
	want(t, "one append more", asked(t, s, id, "append 1,-,-"), serve.Resp{Kind: req.Append, Err: api.ErrDevice})
	want(t, "count", asked(t, s, id, "count"), serve.Resp{Kind: req.Count, Rows: 1})
}

func TestTwin(t *testing.T) {
	s, a := filled(t, conf())
	b := entered(t, s)
	asked(t, s, a, "open id,at all")
	ask(t, s, a, "fetch 1")
	step(t, s, a)
	step(t, s, a)
	ask(t, s, b, "append 99,-,-")
	for range 3 {
		step(t, s, b)
	}
	twin := s.Twin()
	if !slices.Equal(twin.Sessions(), []int{1, 2}) || !slices.Equal(twin.Cursors(), []int{1}) || !twin.Busy(a) || !twin.Busy(b) || twin.Pool().Pinned() != 1 || twin.Table() == s.Table() || twin.Pool() == s.Pool() {
		t.Errorf("P2601: the Twin has %v, %v", twin.Sessions(), twin.Cursors())
	}
	for _, one := range []*serve.Server{twin, s} {
		if one == s && (!s.Busy(a) || s.Pool().Pinned() != 1 || foot.Rows(s.Table().Foot()) != 12) {
			t.Error("P2601: the Twin is not by itself")
		}
		r, n := finish(t, one, a)
		want(t, "fetch", r, batch(0, [][]val.Val{{number(0), spot(1i)}, {number(1), spot(1 + 1i)}, {number(2), spot(2 + 1i)}}, 3+3i))
		if n != 2 {
			t.Errorf("P2601: the Fetch takes %d small steps more", n)
		}
		r, n = finish(t, one, b)
		want(t, "append", r, serve.Resp{Kind: req.Append, Rows: 13})
		if n != 4 {
			t.Errorf("P2601: the Append takes %d small steps more", n)
		}
		if id := entered(t, one); id != 3 {
			t.Errorf("P2601: Enter is %d", id)
		}
		want(t, "open", asked(t, one, a, "open id all"), serve.Resp{Kind: req.Open, Cursor: 2})
	}
}

func TestSameResp(t *testing.T) {
	for i, change := range []func(r *serve.Resp){
		func(r *serve.Resp) { r.Kind++ }, func(r *serve.Resp) { r.Err++ }, func(r *serve.Resp) { r.Cursor++ }, func(r *serve.Resp) { r.End = true }, func(r *serve.Resp) { r.Rows++ }, func(r *serve.Resp) { r.Batch.Group++ }, func(r *serve.Resp) { r.Batch.Sum++ },
		func(r *serve.Resp) { r.Batch.Rows = ids(2) },
	} {
		r := batch(1, ids(1), 0)
		change(&r)
		if serve.SameResp(r, batch(1, ids(1), 0)) {
			t.Errorf("P2601: %d is the same", i)
		}
	}
	if !serve.SameResp(batch(1, ids(1), 0), batch(1, ids(1), 0)) {
		t.Error("P2601: not the same")
	}
}

func TestCursorsThatGoTogetherDeliverTheModel(t *testing.T) {
	for seed := range uint32(60) {
		next := func(n int) int {
			seed = seed*1664525 + 1013904223
			return int(seed>>16) % n
		}
		s, first := filled(t, serve.Conf{Frames: 3 + next(4), K: 1 + next(3), Share: next(2) == 0, Jump: next(2) == 0})
		tb := s.Table()
		var rows [][][]val.Val
		for g := range tb.Foot().Groups {
			l, _ := tb.Read(g)
			rows = append(rows, l)
		}
		words := []string{"open id all", "open at,id >= 0 11", "open word or(< 0 2;> 0 30)", "open at,word,id in 2 0+0i 21+1i", "open id not(null 1)"}
		who := []int{first, entered(t, s), entered(t, s)}
		got, ended, of := make([][]cursor.Batch, 3), make([]bool, 3), make([]req.Req, 3)
		for i, id := range who {
			of[i] = parsed(t, words[next(len(words))])
			s.Ask(id, of[i])
			finish(t, s, id)
		}
		for n := 0; slices.Contains(ended, false); n++ {
			i := next(3)
			if !s.Busy(who[i]) && !ended[i] {
				s.Ask(who[i], req.Req{Kind: req.Fetch, Cursor: i + 1})
			}
			if !s.Busy(who[i]) {
				continue
			}
			r, done := step(t, s, who[i])
			if done && r.Err != api.OK && r.Err != api.ErrPool || n > 20000 {
				t.Fatalf("T3: %v", r)
			}
			if ended[i] = done && r.End; done && r.Err == api.OK && !r.End {
				got[i] = append(got[i], r.Batch)
			}
		}
		for i := range who {
			slices.SortFunc(got[i], func(a, b cursor.Batch) int { return a.Group - b.Group })
			model, _ := cursor.Model(tb.Foot(), rows, of[i].Cols, of[i].Pred)
			if !slices.EqualFunc(got[i], model, cursor.Same) {
				t.Errorf("T1: %v delivers %v, want %v", of[i], got[i], model)
			}
		}
		if s.Pool().Pinned() != 0 {
			t.Errorf("T3: %d Pinned at the end", s.Pool().Pinned())
		}
	}
}
