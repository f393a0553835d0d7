package pass_test

import (
	"math"
	"slices"
	"testing"

	"noria/pass"
)

// walk answers all groups that r comes to, in order.
func walk(t *testing.T, r pass.Round) []int {
	t.Helper()
	var out []int
	for {
		left := pass.Left(r)
		g, ok := pass.Next(r)
		if !ok {
			if g != 0 || left != 0 || pass.Step(r) != r {
				t.Errorf("P2201: at the end of %v: %d, %d left", r, g, left)
			}
			return out
		}
		out = append(out, g)
		next := pass.Step(r)
		if next != (pass.Round{From: r.From, N: r.N, Done: r.Done + 1}) || pass.Left(next) != left-1 {
			t.Fatalf("P2201: Step of %v is %v; %d, %d left", r, next, left, pass.Left(next))
		}
		r = next
	}
}

func TestBegin(t *testing.T) {
	for _, share := range []bool{false, true} {
		p := pass.New(share)
		for _, n := range []int{-1, math.MinInt, 0, 1, 5} {
			if got := p.Begin(n); got != (pass.Round{N: max(n, 0)}) {
				t.Errorf("P2201: Begin(%d) is %v", n, got)
			}
		}
		p.Did(3)
		p.Did(-1)
		for n, from := range map[int]int{-1: 0, 0: 0, 3: 0, 4: 3, 9: 3} {
			if !share {
				from = 0
			}
			if got := p.Begin(n); got != (pass.Round{From: from, N: max(n, 0)}) {
				t.Errorf("P2201: Begin(%d) of %v behind Did(3) is %v", n, share, got)
			}
		}
		p.Did(0)
		if got := p.Begin(9); got.From != 0 {
			t.Errorf("P2201: Begin behind Did(0) is %v", got)
		}
	}
}

func TestRound(t *testing.T) {
	for i, c := range []struct {
		r    pass.Round
		want []int
	}{
		{pass.Round{N: 4}, []int{0, 1, 2, 3}}, {pass.Round{From: 2, N: 4}, []int{2, 3, 0, 1}}, {pass.Round{From: 3, N: 4, Done: 2}, []int{1, 2}}, {pass.Round{N: 1}, []int{0}}, {pass.Round{}, nil}, {pass.Round{N: 4, Done: 4}, nil},
		{pass.Round{N: -1}, nil}, {pass.Round{N: 4, Done: -1}, nil}, {pass.Round{N: 4, Done: 5}, nil}, {pass.Round{From: -1, N: 4}, nil}, {pass.Round{From: 4, N: 4}, nil}, {pass.Round{From: math.MinInt, N: math.MinInt, Done: math.MinInt}, nil},
		{pass.Round{From: math.MaxInt - 1, N: math.MaxInt, Done: math.MaxInt - 1}, []int{math.MaxInt - 2}},
	} {
		if got := walk(t, c.r); !slices.Equal(got, c.want) {
			t.Errorf("P2201: %d: %v", i, got)
		}
	}
}

func TestTwin(t *testing.T) {
	p := pass.New(true)
	p.Did(2)
	twin := p.Twin()
	if got := twin.Begin(9); got.From != 2 {
		t.Errorf("P2201: Begin of the Twin is %v", got)
	}
	twin.Did(5)
	if p.Begin(9).From != 2 || twin.Begin(9).From != 5 {
		t.Error("P2201: the Twin is not by itself")
	}
	if pass.New(false).Twin().Begin(9).From != 0 {
		t.Error("P2201: the Twin of one that is not shared")
	}
}
