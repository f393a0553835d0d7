package serve

import (
	"noria/api"
	"noria/cursor"
	"noria/fetch"
	"noria/foot"
	"noria/pass"
	"noria/req"
)

// Step does one small step of that session's request, and tells whether it is answered.
func (s *Server) Step(id int) (Resp, bool, api.Errno) {
	one, there := s.sessions[id]
	if !there {
		return Resp{}, false, api.ErrHandle
	}
	if !one.busy {
		return Resp{}, false, api.ErrState
	}
	out, done := s.small(id, one)
	if !done {
		return Resp{}, false, api.OK
	}
	out.Kind = one.r.Kind
	*one = session{}
	return out, true, api.OK
}

// small does one small step of one's request; false: there is no answer yet.
func (s *Server) small(id int, one *session) (Resp, bool) {
	if one.r.Kind == req.Open {
		goto open
	}
	if one.r.Kind == req.Fetch {
		goto fetch
	}
	if one.r.Kind == req.Shut {
		goto shut
	}
	if one.r.Kind == req.Append {
		goto appends
	}
	if one.r.Kind == req.Count {
		goto count
	}
	return Resp{Err: api.ErrArg}, true
open:
	return s.open(id, one.r), true
fetch:
	return s.fetch(id, one)
shut:
	return s.shut(id, one.r.Cursor), true
appends:
	return s.append(id, one)
count:
	return Resp{Rows: s.rows()}, true
}

// rows answers how many rows there are.
func (s *Server) rows() int {
	return foot.Rows(s.table.Foot())
}

func (s *Server) open(id int, r req.Req) Resp {
	c, e := cursor.Open(s.table.Foot(), s.pass, r.Cols, r.Pred)
	if e != api.OK {
		return Resp{Err: e}
	}
	if len(s.cursors) >= api.MaxCursors {
		return Resp{Err: api.ErrMany}
	}
	s.lastCursor++
	s.cursors[s.lastCursor] = &opened{id, c}
	return Resp{Cursor: s.lastCursor}
}

// has tells whether that session has a cursor of that number.
func (s *Server) has(id, number int) bool {
	o, there := s.cursors[number]
	return there && o.owner == id
}

func (s *Server) shut(id, number int) Resp {
	if !s.has(id, number) {
		return Resp{Err: api.ErrHandle}
	}
	delete(s.cursors, number)
	return Resp{}
}

// fetch does one small step of a Fetch: the next group is sought, or one of its columns read, or its Batch made.
func (s *Server) fetch(id int, one *session) (Resp, bool) {
	if !s.has(id, one.r.Cursor) {
		return Resp{Err: api.ErrHandle}, true
	}
	o := s.cursors[one.r.Cursor]
	if !one.reading {
		goto now
	}
	if len(one.cols) < len(cursor.Needs(o.c)) {
		goto column
	}
	return s.batch(one, o)
now:
	return s.seek(one, o)
column:
	return s.column(one, o)
}

// seek does cursor.Now.
func (s *Server) seek(one *session, o *opened) (Resp, bool) {
	c, group, ok := cursor.Now(o.c, s.conf.Jump)
	if !ok {
		return Resp{End: true}, true
	}
	o.c, one.group, one.reading = c, group, true
	return Resp{}, false
}

// column does fetch.Column of the next column that is needed.
func (s *Server) column(one *session, o *opened) (Resp, bool) {
	at := cursor.Needs(o.c)[len(one.cols)]
	chunk := o.c.Groups[one.group].Chunks[at]
	l, e := fetch.Column(s.table.Device(), s.pool, chunk)
	if e != api.OK {
		s.unpin(one)
		return Resp{Err: e}, true
	}
	one.cols, one.pinned = append(one.cols, l), append(one.pinned, chunk.Ext.At)
	return Resp{}, false
}

// batch does cursor.Make; of a Batch without rows the next group is sought.
func (s *Server) batch(one *session, o *opened) (Resp, bool) {
	b, e := cursor.Make(o.c, one.group, one.cols)
	s.unpin(one)
	if e != api.OK {
		return Resp{Err: e}, true
	}
	s.pass.Did(one.group)
	o.c.Round = pass.Step(o.c.Round)
	one.reading, one.cols = false, nil
	if len(b.Rows) == 0 {
		return Resp{}, false
	}
	return Resp{Batch: b}, true
}

// append does one small step of an Append: nothing while another session Appends, then Begin, then a Step of pub.
func (s *Server) append(id int, one *session) (Resp, bool) {
	e, last := api.OK, false
	if s.appends != 0 && s.appends != id {
		return Resp{}, false
	}
	if one.pub == nil {
		goto begin
	}
	last, e = one.pub.Step()
	if last {
		e = s.table.Commit(one.pub)
	}
	if e != api.OK || last {
		goto answered
	}
	return Resp{}, false
begin:
	one.pub, e = s.table.Begin(one.r.Rows)
	if e != api.OK {
		goto answered
	}
	s.appends = id
	return Resp{}, false
answered:
	s.appends = 0
	if e != api.OK {
		return Resp{Err: e}, true
	}
	return Resp{Rows: s.rows()}, true
}
