package fresh_test

import (
	"testing"

	"noria/foot"
	"noria/fresh"
	"noria/group"
	"noria/pred"
	"noria/schema"
	"noria/val"
)

func TestNothingIsShared(t *testing.T) {
	rows := [][]val.Val{{{Kind: val.Int, N: 1}}, nil}
	again := fresh.Rows(rows)
	again[0][0].N = 2
	if rows[0][0].N != 1 || len(again) != 2 || len(again[1]) != 0 {
		t.Errorf("Rows: %v, %v", rows, again)
	}
	f := foot.Foot{Epoch: 3, Schema: schema.Schema{{Name: "a", Kind: val.Int}}, Groups: []group.Group{{Rows: 1, Chunks: make([]group.Chunk, 1)}}}
	other := fresh.Foot(f)
	if !foot.Same(f, other) {
		t.Errorf("Foot: %v", other)
	}
	other.Schema[0].Name, other.Groups[0].Chunks[0].Ext.At, other.Groups[0].Rows = "b", 5, 9
	if f.Schema[0].Name != "a" || f.Groups[0].Chunks[0].Ext.At != 0 || f.Groups[0].Rows != 1 {
		t.Errorf("Foot: %v", f)
	}
	p := pred.Pred{Op: pred.Not, Kids: []pred.Pred{{Op: pred.And, Kids: []pred.Pred{{Op: pred.All}, {Op: pred.IsNull, Col: 3}}}}}
	q := fresh.Pred(p)
	if !pred.Same(p, q) {
		t.Errorf("Pred: %v", q)
	}
	q.Kids[0].Kids[1].Col = 7
	if p.Kids[0].Kids[1].Col != 3 {
		t.Errorf("Pred: %v", p)
	}
}

func TestADeepPredStaysTooDeep(t *testing.T) {
	for depth, want := range map[int]int{1: 1, 8: 8, 9: 9, 10: 9, 5000: 9} {
		p := pred.Pred{Op: pred.All}
		for range depth - 1 {
			p = pred.Pred{Op: pred.Not, Kids: []pred.Pred{p}}
		}
		if got := pred.Depth(fresh.Pred(p)); got != want {
			t.Errorf("%d levels come back as %d", depth, got)
		}
	}
}
