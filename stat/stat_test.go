package stat_test

import (
	"bytes"
	"math"
	"slices"
	"strings"
	"testing"

	"noria/api"
	"noria/point"
	"noria/stat"
	"noria/val"
)

func number(n int64) val.Val    { return val.Val{Kind: val.Int, N: n} }
func text(s string) val.Val     { return val.Val{Kind: val.Bytes, S: s} }
func spot(c complex128) val.Val { return val.Val{Kind: val.Point, C: c} }

var null = val.Val{}

type case_ struct {
	l    []val.Val
	kind int
	want stat.Stat
	b    []byte
}

func cases() []case_ {
	return []case_{
		{nil, val.Int, stat.Stat{Kind: val.Int}, []byte{1, 0, 0}},
		{[]val.Val{null, null}, val.Bytes, stat.Stat{Kind: val.Bytes, Rows: 2, Nulls: 2}, []byte{2, 2, 2}},
		{[]val.Val{null}, val.Point, stat.Stat{Kind: val.Point, Rows: 1, Nulls: 1}, []byte{3, 1, 1}},
		{[]val.Val{number(5), null, number(-3), number(64)}, val.Int, stat.Stat{Kind: val.Int, Rows: 4, Nulls: 1, Low: number(-3), High: number(64)}, []byte{1, 4, 1, 5, 128, 1}},
		{[]val.Val{text("b"), text("aa"), text("")}, val.Bytes, stat.Stat{Kind: val.Bytes, Rows: 3, Low: text(""), High: text("b")}, []byte{2, 3, 0, 0, 1, 'b'}},
		{[]val.Val{spot(1 - 2i), null, spot(-3 + 4i)}, val.Point, stat.Stat{Kind: val.Point, Rows: 3, Nulls: 1, Box: point.Box{Low: -3 - 2i, High: 1 + 4i}}, []byte{3, 3, 1, 5, 3, 2, 8}},
		{[]val.Val{number(7)}, val.Int, stat.Stat{Kind: val.Int, Rows: 1, Low: number(7), High: number(7)}, []byte{1, 1, 0, 14, 14}},
		{[]val.Val{null, spot(2 - 1i)}, val.Point, stat.Stat{Kind: val.Point, Rows: 2, Nulls: 1, Box: point.Box{Low: 2 - 1i, High: 2 - 1i}}, []byte{3, 2, 1, 4, 1, 4, 1}},
		{[]val.Val{number(math.MinInt64), number(math.MaxInt64)}, val.Int, stat.Stat{Kind: val.Int, Rows: 2, Low: number(math.MinInt64), High: number(math.MaxInt64)}, nil},
		{make([]val.Val, 64), val.Int, stat.Stat{Kind: val.Int, Rows: 64, Nulls: 64}, []byte{1, 64, 64}},
	}
}

func TestOfPutGet(t *testing.T) {
	for i, c := range cases() {
		s, e := stat.Of(c.l, c.kind)
		if s != c.want || e != api.OK || stat.Check(s) != api.OK || !stat.Same(s, c.want) {
			t.Errorf("P901: %d: Of is %v, %v", i, s, e)
		}
		b, e := stat.Put([]byte{7}, s)
		if e != api.OK || b[0] != 7 || c.b != nil && !bytes.Equal(b[1:], c.b) {
			t.Errorf("P901: %d: Put is %v, %v", i, b, e)
		}
		got, n, e := stat.Get(append(b, 1, 2), 1)
		if got != s || n != len(b)-1 || e != api.OK {
			t.Errorf("P901: %d: Get is %v, %d, %v", i, got, n, e)
		}
		for cut := 1; cut < len(b); cut++ {
			if got, n, e := stat.Get(b[:cut], 1); got != (stat.Stat{}) || n != 0 || e != api.ErrShort {
				t.Errorf("P901: %d: Get of %v is %v, %d, %v", i, b[:cut], got, n, e)
			}
		}
		for _, v := range c.l {
			if !stat.Has(s, v) {
				t.Errorf("P901: %d has no %v", i, v)
			}
		}
	}
}

func TestOfRefuses(t *testing.T) {
	for i, c := range []struct {
		l    []val.Val
		kind int
		want api.Errno
	}{
		{nil, 0, api.ErrKind}, {nil, 4, api.ErrKind}, {make([]val.Val, 65), val.Int, api.ErrLong}, {[]val.Val{number(1)}, val.Bytes, api.ErrKind},
		{[]val.Val{{N: 1}}, val.Int, api.ErrArg}, {[]val.Val{text(strings.Repeat("a", 256))}, val.Bytes, api.ErrLong},
	} {
		if s, e := stat.Of(c.l, c.kind); s != (stat.Stat{}) || e != c.want {
			t.Errorf("P901: %d: Of is %v, %v", i, s, e)
		}
	}
}

func TestHas(t *testing.T) {
	numbers, _ := stat.Of([]val.Val{number(-3), number(5)}, val.Int)
	texts, _ := stat.Of([]val.Val{text("b"), text("d"), null}, val.Bytes)
	points, _ := stat.Of([]val.Val{spot(-1), spot(1 + 2i)}, val.Point)
	nulls, _ := stat.Of([]val.Val{null}, val.Int)
	zero, _ := stat.Of([]val.Val{null}, val.Point)
	for i, c := range []struct {
		s    stat.Stat
		v    val.Val
		want bool
	}{
		{numbers, number(-3), true}, {numbers, number(0), true}, {numbers, number(5), true}, {numbers, number(-4), false}, {numbers, number(6), false}, {numbers, null, false}, {numbers, text("b"), false},
		{texts, null, true}, {texts, text("b"), true}, {texts, text("cc"), true}, {texts, text("d\x00"), false}, {texts, text("az"), false}, {texts, number(0), false},
		{points, spot(2i), true}, {points, spot(3i), false}, {points, spot(-2), false}, {points, null, false}, {nulls, null, true}, {nulls, number(0), false}, {zero, spot(0), false},
	} {
		if got := stat.Has(c.s, c.v); got != c.want {
			t.Errorf("P901: %d: Has is %v", i, got)
		}
	}
}

func wrong() map[string]stat.Stat {
	box := point.Box{Low: -1, High: 1}
	return map[string]stat.Stat{
		"rows below 0": {Kind: 1, Rows: -1}, "too many rows": {Kind: 1, Rows: 65, Nulls: 65}, "nulls below 0": {Kind: 1, Rows: 1, Nulls: -1}, "too many nulls": {Kind: 1, Rows: 1, Nulls: 2},
		"no ends": {Kind: 1, Rows: 1}, "no high": {Kind: 1, Rows: 1, Low: number(1)}, "no low": {Kind: 1, Rows: 1, High: number(1)}, "turned": {Kind: 1, Rows: 2, Low: number(2), High: number(1)},
		"of another kind": {Kind: 1, Rows: 1, Low: text("a"), High: text("a")}, "a box": {Kind: 1, Rows: 1, Low: number(1), High: number(1), Box: box},
		"a bad end": {Kind: 1, Rows: 1, Low: val.Val{Kind: 1, S: "a"}, High: number(9)}, "long": {Kind: 2, Rows: 1, Low: text(""), High: text(strings.Repeat("a", 256))},
		"no box and no ends": {Kind: 1, Rows: 1, Nulls: 1, Low: number(0)}, "a box of none": {Kind: 3, Rows: 1, Nulls: 1, Box: box}, "a high of none": {Kind: 2, High: text("")},
		"ends of points": {Kind: 3, Rows: 1, Low: spot(0), High: spot(0), Box: box}, "half a part": {Kind: 3, Rows: 1, Box: point.Box{Low: -0.5, High: 1}}, "far": {Kind: 3, Rows: 1, Box: point.Box{High: api.MaxPart + 1}},
		"turned one way": {Kind: 3, Rows: 1, Box: point.Box{Low: 1, High: 0}}, "turned the other way": {Kind: 3, Rows: 1, Box: point.Box{Low: 1i, High: 5}}, "nan": {Kind: 3, Rows: 1, Box: point.Box{Low: complex(math.NaN(), 0)}},
	}
}

func TestCheckAndPutRefuse(t *testing.T) {
	all := wrong()
	for _, kind := range []int{-1, 0, 4} {
		s := stat.Stat{Kind: kind, Rows: -1}
		b, e := stat.Put([]byte{1, 2}, s)
		if stat.Check(s) != api.ErrKind || e != api.ErrKind || !bytes.Equal(b, []byte{1, 2}) {
			t.Errorf("P901: kind %d: %v, %v, %v", kind, stat.Check(s), b, e)
		}
	}
	for name, s := range all {
		room := []byte{1, 2, 3}
		b, e := stat.Put(room[:2], s)
		if stat.Check(s) != api.ErrArg || e != api.ErrArg || !bytes.Equal(b, []byte{1, 2}) {
			t.Errorf("P901: %s: %v, %v, %v", name, stat.Check(s), b, e)
		}
		b[0] = 9
		if !slices.Equal(room, []byte{1, 2, 3}) {
			t.Errorf("P2: %s: what was handed in is %v", name, room)
		}
	}
}

func TestGetRefuses(t *testing.T) {
	far := []byte{3, 1, 0, 130, 128, 128, 1, 0, 0, 0}
	for i, c := range []struct {
		b    []byte
		at   int
		want api.Errno
	}{
		{nil, -1, api.ErrArg}, {nil, 1, api.ErrArg}, {nil, 0, api.ErrShort}, {[]byte{9}, 0, api.ErrShort}, {[]byte{9, 1, 0}, 0, api.ErrKind}, {[]byte{0, 1, 1}, 0, api.ErrKind}, {[]byte{9, 128, 0}, 0, api.ErrForm},
		{[]byte{1, 1, 128, 0}, 0, api.ErrForm}, {[]byte{1, 65, 65}, 0, api.ErrArg}, {[]byte{1, 1, 2}, 0, api.ErrShort}, {[]byte{1, 1, 2, 0, 0}, 0, api.ErrArg}, {[]byte{1, 1, 0, 4, 2}, 0, api.ErrArg},
		{[]byte{2, 1, 0, 128, 2}, 0, api.ErrLong}, {[]byte{2, 1, 0, 1}, 0, api.ErrShort}, {[]byte{2, 2, 0, 1, 'b', 1, 'a'}, 0, api.ErrArg}, {[]byte{2, 1, 0, 0, 255, 1, 7}, 0, api.ErrShort},
		{far, 0, api.ErrArg}, {[]byte{3, 1, 0, 2, 0, 0, 0}, 0, api.ErrArg}, {[]byte{3, 1, 0, 2, 0, 0}, 0, api.ErrShort}, {[]byte{3, 1, 0, 0, 2, 0, 128, 0}, 0, api.ErrForm},
		{[]byte{1, 255, 255, 255, 255, 255, 255, 255, 255, 255, 1, 255, 255, 255, 255, 255, 255, 255, 255, 255, 1}, 0, api.ErrArg},
	} {
		if s, n, e := stat.Get(c.b, c.at); s != (stat.Stat{}) || n != 0 || e != c.want {
			t.Errorf("P901: %d: Get is %v, %d, %v; want %v", i, s, n, e, c.want)
		}
	}
}

func TestSame(t *testing.T) {
	s := stat.Stat{Kind: 1, Rows: 4, Nulls: 1, Low: number(1), High: number(2)}
	if !stat.Same(s, s) {
		t.Error("P901: not the Same as itself")
	}
	for i, change := range []func(s *stat.Stat){
		func(s *stat.Stat) { s.Kind = 9 }, func(s *stat.Stat) { s.Rows++ }, func(s *stat.Stat) { s.Nulls++ }, func(s *stat.Stat) { s.Low.N++ }, func(s *stat.Stat) { s.Low.S = "a" },
		func(s *stat.Stat) { s.High.N++ }, func(s *stat.Stat) { s.Box.Low = 1 }, func(s *stat.Stat) { s.Box.High = 1i },
	} {
		other := s
		change(&other)
		if stat.Same(s, other) {
			t.Errorf("P901: %d is the Same", i)
		}
	}
}
