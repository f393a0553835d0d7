// Package fresh answers what it is handed once more, in memory of its own.
package fresh

import (
	"slices"

	"noria/api"
	"noria/foot"
	"noria/group"
	"noria/pred"
	"noria/val"
)

// Rows answers rows once more.
func Rows(rows [][]val.Val) [][]val.Val {
	out := make([][]val.Val, len(rows))
	for i, r := range rows {
		out[i] = slices.Clone(r)
	}
	return out
}

// Groups answers groups once more.
func Groups(groups []group.Group) []group.Group {
	out := make([]group.Group, len(groups))
	for i, g := range groups {
		out[i] = group.Group{Rows: g.Rows, Chunks: slices.Clone(g.Chunks)}
	}
	return out
}

// Foot answers f once more.
func Foot(f foot.Foot) foot.Foot {
	return foot.Foot{Epoch: f.Epoch, Schema: slices.Clone(f.Schema), Groups: Groups(f.Groups)}
}

// Pred answers p once more, down to the first level that is too deep: what lies below it is asked by nobody.
func Pred(p pred.Pred) pred.Pred {
	return levels(p, api.MaxDepth+1)
}

func levels(p pred.Pred, n int) pred.Pred {
	var kids []pred.Pred
	for _, k := range p.Kids {
		if n == 1 {
			break
		}
		kids = append(kids, levels(k, n-1))
	}
	p.Kids = kids
	return p
}
