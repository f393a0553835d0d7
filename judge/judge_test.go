package judge_test

import (
	"slices"
	"strings"
	"testing"

	"noria/api"
	"noria/cursor"
	"noria/judge"
	"noria/req"
	"noria/schema"
	"noria/serve"
	"noria/val"
	"noria/world"
)

type A = world.Act

func two() schema.Schema {
	return schema.Schema{{Name: "id", Kind: val.Int}, {Name: "at", Kind: val.Point}}
}

func conf() serve.Conf { return serve.Conf{Frames: 4, K: 2} }

func ask(t *testing.T, id int, words string) A {
	t.Helper()
	r, e := req.Parse(words)
	if e != api.OK {
		t.Fatalf("%q: %v", words, e)
	}
	return A{Op: "ask", A: id, Req: r}
}

// lines answers acts told in lines: a session's number and its request (asked and finished), or an Op and a number.
func lines(t *testing.T, text ...string) []A {
	t.Helper()
	var out []A
	for _, s := range text {
		head, rest, _ := strings.Cut(s, " ")
		if head[0] >= '1' && head[0] <= '9' {
			out = append(out, ask(t, int(head[0]-'0'), rest), A{Op: "finish", A: int(head[0] - '0')})
			continue
		}
		a := A{Op: head}
		if rest != "" && head != "crash" {
			a.A = int(rest[0] - '0')
		}
		for _, c := range rest {
			if head == "crash" {
				a.Keep = append(a.Keep, c == '1')
			}
		}
		out = append(out, a)
	}
	return out
}

func day(t *testing.T, c serve.Conf, l []A) judge.Report {
	t.Helper()
	r, e := judge.Day(80, two(), c, l)
	if e != api.OK {
		t.Fatalf("P2801: Day is %v", e)
	}
	return r
}

func tells(t *testing.T, r judge.Report, appends, ends, groups int) {
	t.Helper()
	if len(r.Bad) != 0 || r.Appends != appends || r.Ends != ends || r.Groups != groups {
		t.Errorf("P2801: Bad is %v; %d Appends, %d Ends, %d groups; want %d, %d, %d", r.Bad, r.Appends, r.Ends, r.Groups, appends, ends, groups)
	}
}

func sameEvent(a, b world.Event) bool {
	return a.Op == b.Op && a.A == b.A && a.Err == b.Err && a.Done == b.Done && serve.SameResp(a.Resp, b.Resp)
}

func TestDayRefuses(t *testing.T) {
	for i, c := range []struct {
		blocks int
		s      schema.Schema
		c      serve.Conf
		want   api.Errno
	}{{3, nil, serve.Conf{}, api.ErrArg}, {40, nil, serve.Conf{}, api.ErrLong}, {40, two(), serve.Conf{}, api.ErrArg}} {
		r, e := judge.Day(c.blocks, c.s, c.c, []A{{Op: "enter"}})
		if e != c.want || len(r.Events) != 0 || len(r.Bad) != 0 || r.Appends+r.Ends+r.Groups != 0 {
			t.Errorf("P2801: %d: Day is %v, %v", i, r, e)
		}
	}
}

func TestAPlainDay(t *testing.T) {
	text := []string{"enter", "enter", "1 append 1,1+1i;2,-", "2 count", "2 append -,3+0i", "1 append 5", "1 open id,at all", "2 open at > 0 1", "1 fetch 1", "1 fetch 1", "2 append 7,7+7i", "1 fetch 1", "1 fetch 1", "2 fetch 2", "2 fetch 1", "2 fetch 2", "1 count", "enter", "stop"}
	acts := lines(t, text...)
	r := day(t, conf(), acts)
	tells(t, r, 3, 2, 3)
	want, _ := world.Run(80, two(), conf(), acts)
	if !slices.EqualFunc(r.Events, want, sameEvent) {
		t.Errorf("P2801: the Events are %v", r.Events)
	}
	got := judge.Delivered(r.Events, acts)
	if len(got) != 2 || len(got[0]) != 2 || got[0][0].Group != 0 || got[0][1].Group != 1 || got[0][0].Sum != 1+1i || len(got[1]) != 1 || len(got[1][0].Rows) != 1 {
		t.Errorf("P2802: Delivered is %v", got)
	}
	tells(t, day(t, conf(), nil), 0, 0, 0)
	tells(t, day(t, conf(), append(acts, A{Op: "crash"})), 3, 2, 0)
	tells(t, day(t, conf(), append(acts, A{Op: "crash"}, A{Op: "start"})), 3, 2, 3)
}

func TestCrashesAtEachStep(t *testing.T) {
	for steps := range 9 {
		for mask := range 16 {
			acts := lines(t, "enter", "enter", "1 append 1,1+1i;2,-")
			acts = append(acts, ask(t, 1, "append 3,-;4,-"), ask(t, 2, "append 3,-"))
			for range steps {
				acts = append(acts, A{Op: "step", A: 1}, A{Op: "step", A: 2})
			}
			keep := []bool{mask&1 > 0, mask&2 > 0, mask&4 > 0, mask&8 > 0}
			acts = append(acts, A{Op: "crash", Keep: keep}, A{Op: "crash"}, A{Op: "enter"}, A{Op: "start"})
			acts = append(acts, lines(t, "enter", "1 count", "1 append 9,9+9i", "1 open id >= 0 2", "1 fetch 1", "1 fetch 1", "1 fetch 1", "1 fetch 1", "1 count")...)
			r := day(t, conf(), acts)
			appends := 2
			if steps >= 7 || steps == 6 && mask&1 > 0 {
				appends = 3
			}
			tells(t, r, appends, 1, appends)
		}
	}
}

// wild answers acts of a day by a seed: sessions, requests, crashes. Of a steady one each request is answered ahead of
// the next: what is refused as busy hangs on how many small steps a Fetch takes.
func wild(t *testing.T, seed uint32, steady bool) []A {
	next := func(n int) int {
		seed = seed*1664525 + 1013904223
		return int(seed>>16) % n
	}
	words := []string{"append 1,1+1i;2,-", "append -,3+0i", "append 5,-;6,-2-2i;7,0+0i", "count", "open id all", "open at,id > 0 2", "open at in 1 0+0i 2+2i", "open id not(null 1)", "fetch 1", "fetch 2", "fetch 3", "fetch 4", "fetch 1", "fetch 2", "shut 3", "append 1"}
	acts := []A{{Op: "enter"}, {Op: "enter"}, {Op: "enter"}}
	for range 150 {
		id := 1 + next(3)
		switch n := next(60); {
		case n == 0:
			var keep []bool
			for range 12 {
				keep = append(keep, next(2) == 0)
			}
			acts = append(acts, A{Op: "crash", Keep: keep}, A{Op: "start"}, A{Op: "enter"}, A{Op: "enter"}, A{Op: "enter"})
		case n == 1:
			acts = append(acts, A{Op: "leave", A: id}, A{Op: "enter"})
		case n < 30 && !steady:
			acts = append(acts, A{Op: "step", A: id})
		default:
			acts = append(acts, ask(t, id, words[next(len(words))]))
			if n < 50 || steady {
				acts = append(acts, A{Op: "finish", A: id})
			}
		}
	}
	return acts
}

func TestWildDays(t *testing.T) {
	appends, ends := 0, 0
	for seed := range uint32(100) {
		steady := seed%2 == 0
		acts := wild(t, seed, steady)
		first := day(t, serve.Conf{Frames: 256, K: 1}, acts)
		for _, c := range []serve.Conf{{Frames: 2, K: 2}, {Frames: 6, K: 8, Share: true}, {Frames: 3, K: 1, Jump: true}, {Frames: 4, K: 2, Share: true, Jump: true}} {
			r := day(t, c, acts)
			if len(first.Bad) != 0 || len(r.Bad) != 0 {
				t.Fatalf("P2801: of seed %d Bad is %v, %v", seed, first.Bad, r.Bad)
			}
			if steady && (!judge.Alike(first, r, acts) || !judge.Alike(r, first, acts)) {
				t.Errorf("P2802: of seed %d %v is not Alike", seed, c)
			}
			appends, ends = appends+r.Appends, ends+r.Ends
		}
	}
	if appends < 1000 || ends < 300 {
		t.Errorf("the days are poor: %d Appends, %d Ends", appends, ends)
	}
}

func TestDelivered(t *testing.T) {
	acts := lines(t, "enter", "1 append 1,-", "1 append 2,-", "1 open x all", "1 open id all", "1 fetch 1", "1 open id > 0 9", "1 fetch 2", "1 open id all", "1 fetch 1", "1 fetch 3", "1 fetch 1", "crash", "start", "enter", "1 open id < 0 2", "1 fetch 1", "1 fetch 1")
	r := day(t, conf(), acts)
	tells(t, r, 2, 3, 2)
	got := judge.Delivered(r.Events, acts)
	if len(got) != 4 {
		t.Fatalf("P2802: Delivered is %v", got)
	}
	for i, want := range []int{2, 0, 0, 1} {
		if len(got[i]) != want {
			t.Errorf("P2802: the %d. Open has %v", i, got[i])
		}
	}
	got[0][0].Rows[0][0].N = 99
	if again := judge.Delivered(r.Events, acts); again[0][0].Rows[0][0].N != 1 {
		t.Error("P2: Delivered shares memory with the Events")
	}
	if l := judge.Delivered(r.Events[:5], acts); len(l) != 0 {
		t.Errorf("P2802: Delivered of the beginning is %v", l)
	}
	judge.Delivered(r.Events, nil)
	judge.Delivered(nil, acts)
	judge.Delivered(r.Events, acts[3:])
}

func TestDeliveredIsByGroup(t *testing.T) {
	acts := lines(t, "enter", "1 append 1,-", "1 append 2,-", "1 append 3,-", "1 open id all", "1 fetch 1", "1 fetch 1", "1 open id all", "1 fetch 2", "1 fetch 2", "1 fetch 2", "1 fetch 2")
	c := conf()
	c.Share = true
	r := day(t, c, acts)
	tells(t, r, 3, 1, 3)
	got := judge.Delivered(r.Events, acts)
	if len(got) != 2 || len(got[1]) != 3 || got[1][0].Group != 0 || got[1][1].Group != 1 || got[1][2].Group != 2 {
		t.Errorf("P2802: Delivered is %v", got)
	}
	if r.Events[len(r.Events)-7].Resp.Batch.Group != 1 {
		t.Errorf("the round begins with %v", r.Events[len(r.Events)-7])
	}
}

func TestAlike(t *testing.T) {
	acts := lines(t, "enter", "1 append 1,-", "1 append 2,-", "1 open id all", "1 fetch 1", "1 fetch 1", "1 fetch 1", "1 open id all", "1 fetch 2")
	a := day(t, conf(), acts)
	change := func(f func(b *cursor.Batch)) judge.Report {
		b := day(t, conf(), acts)
		f(&b.Events[10].Resp.Batch)
		return b
	}
	if !judge.Alike(a, a, acts) || !judge.Alike(a, judge.Report{}, acts) || !judge.Alike(a, change(func(*cursor.Batch) {}), acts) {
		t.Error("P2802: not Alike")
	}
	for i, f := range []func(b *cursor.Batch){func(b *cursor.Batch) { b.Group = 5 }, func(b *cursor.Batch) { b.Sum = 5 }, func(b *cursor.Batch) { b.Rows[0][0].N++ }, func(b *cursor.Batch) { b.Rows = nil }} {
		b := change(f)
		if judge.Alike(a, b, acts) || judge.Alike(b, a, acts) {
			t.Errorf("P2802: %d is Alike", i)
		}
		b.Events[len(b.Events)-5].Done = false // its cursor has not come to its End then
		if !judge.Alike(a, b, acts) {
			t.Errorf("P2802: %d, without its End, is not Alike", i)
		}
	}
	b := day(t, conf(), acts)
	b.Events[len(b.Events)-1].Resp.Batch.Group = 9
	if !judge.Alike(a, b, acts) {
		t.Error("P2802: what has not come to its End is looked at")
	}
}
