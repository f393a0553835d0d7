package req

import (
	"strconv"
	"strings"

	"noria/api"
	"noria/point"
	"noria/pred"
	"noria/val"
)

const (
	wordEnds = " ,;)"
	headEnds = wordEnds + "("
)

// parser: how far a text is read, and its first error; behind that all it reads is nothing.
type parser struct {
	s   string
	at  int
	err api.Errno
}

func (p *parser) fail(e api.Errno) {
	if p.err == api.OK {
		p.err = e
	}
}

// until reads up to the first of ends.
func (p *parser) until(ends string) string {
	from := p.at
	if p.err != api.OK {
		return ""
	}
next:
	if p.at == len(p.s) || strings.IndexByte(ends, p.s[p.at]) >= 0 {
		return p.s[from:p.at]
	}
	p.at++
	goto next
}

// took tells whether c stands there, and reads it, if so.
func (p *parser) took(c byte) bool {
	if p.err != api.OK || p.at == len(p.s) || p.s[p.at] != c {
		return false
	}
	p.at++
	return true
}

func (p *parser) need(c byte) {
	if !p.took(c) {
		p.fail(api.ErrForm)
	}
}

// done answers the first error; that there is more to read is one.
func (p *parser) done() api.Errno {
	if p.at < len(p.s) {
		p.fail(api.ErrForm)
	}
	return p.err
}

// number reads a blank and a whole number from 0 on.
func (p *parser) number() int {
	p.need(' ')
	word := p.until(wordEnds)
	if word == "" || word[0] == '0' && word != "0" || strings.Trim(word, "0123456789") != "" {
		p.fail(api.ErrForm)
	}
	n, wrong := strconv.ParseInt(word, 10, 64)
	if wrong != nil {
		p.fail(api.ErrArg)
	}
	if p.err != api.OK {
		return 0
	}
	return int(n)
}

func (p *parser) value() val.Val {
	v, e := val.Parse(p.until(wordEnds))
	p.fail(e)
	return v
}

// point reads a blank and a point.
func (p *parser) point() complex128 {
	p.need(' ')
	c, e := point.Parse(p.until(wordEnds))
	p.fail(e)
	return c
}

// Parse is Text's way back.
func Parse(s string) (Req, api.Errno) {
	p := &parser{s: s}
	var r Req
	switch p.until(headEnds) {
	case "open":
		p.need(' ')
		r = Req{Kind: Open, Cols: p.cols()}
		p.need(' ')
		r.Pred = p.pred(1)
	case "fetch":
		r = Req{Kind: Fetch, Cursor: p.number()}
	case "shut":
		r = Req{Kind: Shut, Cursor: p.number()}
	case "append":
		p.need(' ')
		r = Req{Kind: Append, Rows: p.rows()}
	case "count":
		r = Req{Kind: Count}
	default:
		p.fail(api.ErrForm)
	}
	if e := p.done(); e != api.OK {
		return Req{}, e
	}
	return r, api.OK
}

func (p *parser) cols() []string {
	var out []string
next:
	name := p.until(wordEnds)
	if !isName(name) {
		p.fail(api.ErrForm)
	}
	out = append(out, name)
	if p.took(',') {
		goto next
	}
	return out
}

func (p *parser) rows() [][]val.Val {
	var out [][]val.Val
next:
	out = append(out, p.row())
	if p.took(';') {
		goto next
	}
	return out
}

func (p *parser) row() []val.Val {
	var out []val.Val
next:
	out = append(out, p.value())
	if p.took(',') {
		goto next
	}
	return out
}

// PredParse is PredText's way back.
func PredParse(s string) (pred.Pred, api.Errno) {
	p := &parser{s: s}
	out := p.pred(1)
	if e := p.done(); e != api.OK {
		return pred.Pred{}, e
	}
	return out, api.OK
}

// pred reads a Pred on that level.
func (p *parser) pred(level int) pred.Pred {
	if level > api.MaxDepth {
		p.fail(api.ErrDeep)
	}
	out := pred.Pred{Op: opOf(p.until(headEnds))}
	switch out.Op {
	case 0:
		p.fail(api.ErrForm)
	case pred.All:
	case pred.IsNull:
		out.Col = p.number()
	case pred.In:
		out.Col = p.number()
		out.Box = point.Box{Low: p.point(), High: p.point()}
	case pred.And, pred.Or, pred.Not:
		out.Kids = p.kids(out.Op, level)
	default:
		out.Col = p.number()
		p.need(' ')
		out.V = p.value()
	}
	return out
}

// kids reads the Kids of a Pred of that Op on that level, with their brackets.
func (p *parser) kids(op, level int) []pred.Pred {
	var out []pred.Pred
	p.need('(')
next:
	out = append(out, p.pred(level+1))
	if p.took(';') {
		goto next
	}
	p.need(')')
	if least, most := kidsOf(op); len(out) < least || len(out) > most {
		p.fail(api.ErrForm)
	}
	return out
}
