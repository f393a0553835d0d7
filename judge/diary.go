package judge

import (
	"cmp"
	"slices"

	"noria/api"
	"noria/cursor"
	"noria/foot"
	"noria/fresh"
	"noria/req"
	"noria/world"
)

// look: an Open that was answered, what was there then, and what its cursor has delivered.
type look struct {
	asked   req.Req
	there   foot.Foot
	batches []cursor.Batch
	ended   bool
	judged  bool
}

// diary: what was asked and not answered by session, whose look a cursor is by number, and all looks in order.
type diary struct {
	asked   map[int]req.Req
	cursors map[int]*look
	looks   []*look
}

func newDiary() *diary {
	return &diary{asked: map[int]req.Req{}, cursors: map[int]*look{}}
}

// write keeps what came of a, and tells the request that was answered by it, if one was.
func (d *diary) write(a world.Act, e world.Event) (req.Req, bool) {
	if e.Err != api.OK || e.Op != a.Op {
		return req.Req{}, false
	}
	if a.Op == "ask" {
		goto ask
	}
	if a.Op == "leave" {
		goto leave
	}
	if a.Op == "crash" {
		goto crash
	}
	if (a.Op == "step" || a.Op == "finish") && e.Done {
		goto done
	}
	return req.Req{}, false
ask:
	d.asked[a.A] = a.Req
	return req.Req{}, false
leave:
	delete(d.asked, a.A)
	return req.Req{}, false
crash:
	// The numbers of sessions and cursors begin anew.
	clear(d.asked)
	clear(d.cursors)
	return req.Req{}, false
done:
	return d.answer(a.A, e), true
}

// answer keeps what was answered to that session, and tells the request.
func (d *diary) answer(id int, e world.Event) req.Req {
	r := d.asked[id]
	delete(d.asked, id)
	if e.Resp.Err != api.OK {
		return r
	}
	if e.Resp.Kind == req.Open {
		one := &look{asked: r}
		d.looks, d.cursors[e.Resp.Cursor] = append(d.looks, one), one
	}
	if one := d.cursors[r.Cursor]; e.Resp.Kind == req.Fetch && one != nil {
		one.fetched(e)
	}
	return r
}

// fetched keeps what a Fetch answered.
func (l *look) fetched(e world.Event) {
	if e.Resp.End {
		l.ended = true
		return
	}
	l.batches = append(l.batches, e.Resp.Batch)
}

// delivered answers all that was delivered, by group; none, where its cursor has not come to its End.
func (l *look) delivered() []cursor.Batch {
	if !l.ended {
		return nil
	}
	out := slices.Clone(l.batches)
	for i := range out {
		out[i].Rows = fresh.Rows(out[i].Rows)
	}
	slices.SortStableFunc(out, func(a, b cursor.Batch) int { return cmp.Compare(a.Group, b.Group) })
	return out
}

// looks answers all Opens that were answered, as events and acts tell.
func looks(e []world.Event, a []world.Act) []*look {
	d := newDiary()
	i := 0
next:
	if i < len(e) && i < len(a) {
		d.write(a[i], e[i])
		i++
		goto next
	}
	return d.looks
}
