package req

import (
	"strconv"
	"strings"

	"noria/api"
	"noria/point"
	"noria/pred"
	"noria/val"
)

// Text answers r as it is written.
func Text(r Req) (string, api.Errno) {
	if e := check(r); e != api.OK {
		return "", e
	}
	switch r.Kind {
	case Open:
		return "open " + strings.Join(r.Cols, ",") + " " + predText(r.Pred), api.OK
	case Fetch:
		return "fetch " + strconv.Itoa(r.Cursor), api.OK
	case Shut:
		return "shut " + strconv.Itoa(r.Cursor), api.OK
	case Append:
		return "append " + rowsText(r.Rows), api.OK
	}
	return "count", api.OK
}

func rowsText(rows [][]val.Val) string {
	var b strings.Builder
	i := 0
next:
	if i == len(rows) {
		return b.String()
	}
	if i > 0 {
		b.WriteByte(';')
	}
	for k, v := range rows[i] {
		if k > 0 {
			b.WriteByte(',')
		}
		b.WriteString(val.Text(v))
	}
	i++
	goto next
}

// PredText answers p as it is written.
func PredText(p pred.Pred) string {
	if checkTree(p) != api.OK {
		return ""
	}
	return predText(p)
}

// predText is PredText of what checkTree takes.
func predText(p pred.Pred) string {
	word, col := opWord(p.Op), strconv.Itoa(p.Col)
	switch p.Op {
	case pred.All:
		return word
	case pred.IsNull:
		return word + " " + col
	case pred.In:
		return word + " " + col + " " + point.Text(p.Box.Low) + " " + point.Text(p.Box.High)
	case pred.And, pred.Or, pred.Not:
		return word + "(" + kidsText(p.Kids) + ")"
	}
	return word + " " + col + " " + val.Text(p.V)
}

func kidsText(kids []pred.Pred) string {
	all := make([]string, len(kids))
	for i, k := range kids {
		all[i] = predText(k)
	}
	return strings.Join(all, ";")
}
