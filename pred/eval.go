package pred

import (
	"noria/api"
	"noria/point"
	"noria/val"
)

// Eval answers what p tells of the row r: True, False or Unknown.
func Eval(p Pred, r []val.Val) int {
	return eval(&p, r, 1)
}

// eval is Eval of a Pred on that level; beyond the deepest level that Check takes nothing is known.
func eval(p *Pred, r []val.Val, level int) int {
	if level > api.MaxDepth {
		return Unknown
	}
	switch p.Op {
	case And:
		return joined(p.Kids, r, level, False)
	case Or:
		return joined(p.Kids, r, level, True)
	case Not:
		return turned(joined(p.Kids, r, level, False))
	case All:
		return True
	}
	if !asks(p.Op) || p.Col < 0 || p.Col >= len(r) {
		return Unknown
	}
	return ask(p, r[p.Col])
}

// joined answers end where one of kids tells it, else Unknown where one does, else the other one.
func joined(kids []Pred, r []val.Val, level, end int) int {
	out, i := turned(end), 0
next:
	if i == len(kids) {
		return out
	}
	got := eval(&kids[i], r, level+1)
	if got == end {
		return end
	}
	if got == Unknown {
		out = Unknown
	}
	i++
	goto next
}

func turned(outcome int) int {
	switch outcome {
	case False:
		return True
	case True:
		return False
	}
	return Unknown
}

// ask answers what p tells of the value of its column.
func ask(p *Pred, v val.Val) int {
	if p.Op == IsNull {
		return told(v.Kind == val.Null)
	}
	if v.Kind == val.Null {
		return Unknown
	}
	if p.Op == In {
		return told(point.In(v.C, p.Box))
	}
	return told(holds(p.Op, val.Compare(v, p.V)))
}

func told(ok bool) int {
	if ok {
		return True
	}
	return False
}

// holds tells whether op holds of a value that is below (-1), as (0) or above (1) another one.
func holds(op, order int) bool {
	switch op {
	case Eq:
		return order == 0
	case Ne:
		return order != 0
	case Lt:
		return order < 0
	case Le:
		return order <= 0
	case Gt:
		return order > 0
	}
	return order >= 0
}
