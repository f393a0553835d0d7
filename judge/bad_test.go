package judge

import (
	"slices"
	"testing"

	"noria/api"
	"noria/req"
	"noria/schema"
	"noria/serve"
	"noria/val"
	"noria/world"
)

func begun(t *testing.T) *day {
	t.Helper()
	w, e := world.New(80, schema.Schema{{Name: "id", Kind: val.Int}}, serve.Conf{Frames: 4, K: 1})
	if e != api.OK {
		t.Fatal(e)
	}
	d := &day{w: w, diary: newDiary()}
	d.do(world.Act{Op: "enter"})
	asked(t, d, "append 1;2")
	asked(t, d, "append 3")
	return d
}

func asked(t *testing.T, d *day, words string) {
	t.Helper()
	r, e := req.Parse(words)
	if e != api.OK {
		t.Fatalf("%q: %v", words, e)
	}
	d.do(world.Act{Op: "ask", A: 1, Req: r})
	d.do(world.Act{Op: "finish", A: 1})
}

func tells(t *testing.T, what string, d *day, want ...string) {
	t.Helper()
	if !slices.Equal(d.report.Bad, want) {
		t.Errorf("P2801: %s: Bad is %v, want %v", what, d.report.Bad, want)
	}
}

func numbers(l ...int64) [][]val.Val {
	var out [][]val.Val
	for _, n := range l {
		out = append(out, []val.Val{{Kind: val.Int, N: n}})
	}
	return out
}

func TestBadCount(t *testing.T) {
	for _, words := range []string{"count", "append 9"} {
		d := begun(t)
		asked(t, d, words)
		tells(t, words, d)
		d.appended = append(d.appended, numbers(7))
		asked(t, d, words)
		asked(t, d, words)
		tells(t, words, d, "count")
	}
	d := begun(t)
	d.answered(req.Req{Kind: req.Append, Rows: numbers(5)}, serve.Resp{Kind: req.Append, Rows: 4})
	tells(t, "the right number", d)
	d.answered(req.Req{Kind: req.Append, Rows: numbers(5)}, serve.Resp{Kind: req.Append, Rows: 4})
	tells(t, "one row too few", d, "count")
}

func TestBadRows(t *testing.T) {
	for name, spoil := range map[string]func(l *look){
		"nothing":      func(l *look) {},
		"one is gone":  func(l *look) { l.batches = l.batches[:1] },
		"one is twice": func(l *look) { l.batches = append(l.batches, l.batches[0]) },
		"a row":        func(l *look) { l.batches[0].Rows[0][0].N++ },
		"a sum":        func(l *look) { l.batches[0].Sum++ },
		"a group":      func(l *look) { l.batches[1].Group = 7 },
		"what's asked": func(l *look) { l.asked.Pred.Op = 0 },
	} {
		d := begun(t)
		asked(t, d, "open id all")
		asked(t, d, "append 4")
		asked(t, d, "fetch 1")
		asked(t, d, "fetch 1")
		spoil(d.diary.looks[0])
		tells(t, name, d)
		asked(t, d, "fetch 1")
		if name == "nothing" {
			tells(t, name, d)
		} else {
			tells(t, name, d, "rows")
		}
		if asked(t, d, "fetch 1"); d.report.Ends != 1 {
			t.Errorf("P2801: %d Ends", d.report.Ends)
		}
	}
	d := begun(t)
	asked(t, d, "open id all")
	d.appended = d.appended[:1]
	for range 3 {
		asked(t, d, "fetch 1")
	}
	tells(t, "a group that nobody appended", d, "rows")
	d = begun(t)
	asked(t, d, "open id > 0 9")
	asked(t, d, "fetch 1")
	tells(t, "no rows", d)
	d.fetched(d.diary.looks[0], serve.Resp{Kind: req.Fetch})
	tells(t, "a Batch behind the End", d, "rows")
}

func TestBadLost(t *testing.T) {
	crash := func(d *day) {
		d.do(world.Act{Op: "crash"})
		d.do(world.Act{Op: "start"})
	}
	d := begun(t)
	crash(d)
	tells(t, "nothing", d)
	for name, spoil := range map[string]func(d *day){
		"a group is gone": func(d *day) { d.appended = append(d.appended, numbers(4)) },
		"one is there":    func(d *day) { d.appended = d.appended[:1] },
		"two are there":   func(d *day) { d.appended = d.appended[:0] },
		"another row":     func(d *day) { d.appended[1] = numbers(4) },
		"another order":   func(d *day) { d.appended[0], d.appended[1] = d.appended[1], d.appended[0] },
		"a page that is torn": func(d *day) {
			f := d.w.Server().Table().Foot()
			v := d.w.Server().Table().Device()
			v.Write(f.Groups[0].Chunks[0].Ext.At, make([]byte, 64))
			v.Sync()
		},
		"what nobody appended": func(d *day) {
			d.appended = d.appended[:1]
			d.diary.asked[1] = req.Req{Kind: req.Append, Rows: numbers(4)}
		},
		"what was not asked": func(d *day) {
			d.appended = d.appended[:1]
			d.diary.asked[1] = req.Req{Kind: req.Count, Rows: numbers(3)}
		},
	} {
		d := begun(t)
		spoil(d)
		crash(d)
		tells(t, name, d, "lost")
	}
	d = begun(t)
	d.appended = d.appended[:1]
	d.report.Appends = 1
	d.diary.asked[1] = req.Req{Kind: req.Append, Rows: numbers(3)}
	crash(d)
	tells(t, "one that was under way", d)
	if d.report.Appends != 2 || len(d.appended) != 2 {
		t.Errorf("P2801: %d Appends", d.report.Appends)
	}
	d.do(world.Act{Op: "enter"})
	asked(t, d, "count")
	tells(t, "one that was under way", d)
	d.appended = d.appended[:1]
	crash(d)
	tells(t, "one that was under way at the crash ahead", d, "lost")
}
