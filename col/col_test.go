package col_test

import (
	"bytes"
	"math"
	"slices"
	"strings"
	"testing"

	"noria/api"
	"noria/col"
	"noria/delta"
	"noria/dict"
	"noria/rle"
	"noria/val"
)

func number(n int64) val.Val    { return val.Val{Kind: val.Int, N: n} }
func text(s string) val.Val     { return val.Val{Kind: val.Bytes, S: s} }
func spot(c complex128) val.Val { return val.Val{Kind: val.Point, C: c} }

func numbers(l ...int64) []val.Val {
	var out []val.Val
	for _, n := range l {
		out = append(out, number(n))
	}
	return out
}

var null = val.Val{}

func TestCheck(t *testing.T) {
	for i, c := range []struct {
		l    []val.Val
		kind int
		want api.Errno
	}{
		{nil, val.Int, api.OK}, {[]val.Val{null, number(1)}, val.Int, api.OK}, {[]val.Val{null}, val.Bytes, api.OK}, {[]val.Val{spot(1)}, val.Point, api.OK},
		{make([]val.Val, 64), val.Point, api.OK}, {make([]val.Val, 65), val.Point, api.ErrLong}, {make([]val.Val, 65), val.Null, api.ErrKind},
		{nil, 0, api.ErrKind}, {nil, 4, api.ErrKind}, {nil, -1, api.ErrKind}, {[]val.Val{number(1), text("a")}, val.Int, api.ErrKind},
		{[]val.Val{text(strings.Repeat("a", 256)), number(1)}, val.Bytes, api.ErrLong}, {[]val.Val{number(1), text(strings.Repeat("a", 256))}, val.Bytes, api.ErrKind},
		{[]val.Val{{Kind: 9}}, val.Int, api.ErrKind}, {[]val.Val{{N: 1}}, val.Int, api.ErrArg}, {[]val.Val{spot(0.5)}, val.Int, api.ErrArg},
	} {
		if e := col.Check(c.l, c.kind); e != c.want {
			t.Errorf("P801: %d: Check is %v, want %v", i, e, c.want)
		}
	}
}

func TestPutTellsJustSo(t *testing.T) {
	words, _ := dict.Put([]string{"b", "a", "b"})
	for i, c := range []struct {
		l         []val.Val
		kind, how int
		b         []byte
	}{
		{nil, val.Int, col.Plain, []byte{1, 0}}, {nil, val.Int, col.Runs, []byte{2, 0}}, {nil, val.Int, col.Steps, []byte{3, 0, 0}}, {nil, val.Bytes, col.Words, []byte{4, 0, 0, 0}},
		{[]val.Val{number(-1), null, number(64)}, val.Int, col.Plain, []byte{1, 3, 0b101, 1, 128, 1}},
		{[]val.Val{text("ab"), null, text("")}, val.Bytes, col.Plain, []byte{1, 3, 0b101, 2, 'a', 'b', 0}},
		{[]val.Val{text("a"), text("bc"), text("def"), text("")}, val.Bytes, col.Plain, []byte{1, 4, 0b1111, 1, 'a', 2, 'b', 'c', 3, 'd', 'e', 'f', 0}},
		{[]val.Val{text(strings.Repeat("x", 255))}, val.Bytes, col.Plain, append([]byte{1, 1, 1, 255, 1}, strings.Repeat("x", 255)...)},
		{[]val.Val{null, spot(-1 + 2i)}, val.Point, col.Plain, []byte{1, 2, 0b10, 1, 4}},
		{numbers(5, 5, -3), val.Int, col.Runs, append([]byte{2, 3, 7}, rle.Put([]uint64{10, 10, 5})...)},
		{numbers(5, 6, 7), val.Int, col.Steps, append([]byte{3, 3, 7}, delta.Put([]int64{5, 6, 7})...)},
		{[]val.Val{text("b"), null, text("a"), text("b")}, val.Bytes, col.Words, append([]byte{4, 4, 0b1101}, words...)},
	} {
		if b, e := col.Put(c.l, c.kind, c.how); !bytes.Equal(b, c.b) || e != api.OK {
			t.Errorf("P801: %d: Put is %v, %v", i, b, e)
		}
		if l, e := col.Get(c.b, c.kind); !slices.Equal(l, c.l) || e != api.OK {
			t.Errorf("P801: %d: Get is %v, %v", i, l, e)
		}
	}
}

func TestPutRefuses(t *testing.T) {
	for i, c := range []struct {
		l         []val.Val
		kind, how int
		want      api.Errno
	}{
		{nil, 9, 9, api.ErrKind}, {make([]val.Val, 65), val.Int, 9, api.ErrLong}, {[]val.Val{text("a")}, val.Int, 9, api.ErrKind},
		{nil, val.Int, 0, api.ErrArg}, {nil, val.Int, 5, api.ErrArg}, {nil, val.Int, col.Words, api.ErrArg}, {nil, val.Bytes, col.Runs, api.ErrArg}, {nil, val.Bytes, col.Steps, api.ErrArg},
		{nil, val.Point, col.Runs, api.ErrArg}, {nil, val.Point, col.Steps, api.ErrArg}, {nil, val.Point, col.Words, api.ErrArg}, {nil, val.Point, -1, api.ErrArg},
	} {
		if b, e := col.Put(c.l, c.kind, c.how); len(b) != 0 || e != c.want {
			t.Errorf("P801: %d: Put is %v, %v; want %v", i, b, e, c.want)
		}
	}
}

func TestGetRefuses(t *testing.T) {
	eight := bytes.Repeat([]byte{255}, 8)
	for i, c := range []struct {
		b    []byte
		kind int
		want api.Errno
	}{
		{nil, 0, api.ErrKind}, {nil, 4, api.ErrKind}, {nil, val.Int, api.ErrShort}, {[]byte{0}, val.Int, api.ErrForm}, {[]byte{4}, val.Int, api.ErrForm}, {[]byte{2}, val.Bytes, api.ErrForm},
		{[]byte{3, 0, 0}, val.Point, api.ErrForm}, {[]byte{4, 0, 0, 0}, val.Point, api.ErrForm}, {[]byte{5}, val.Bytes, api.ErrForm}, {[]byte{1}, val.Int, api.ErrShort},
		{[]byte{1, 128, 0}, val.Int, api.ErrForm}, {[]byte{1, 65}, val.Int, api.ErrLong}, {[]byte{1, 255, 255, 1}, val.Int, api.ErrLong}, {[]byte{1, 9, 0}, val.Int, api.ErrShort},
		{[]byte{1, 1, 2}, val.Int, api.ErrForm}, {[]byte{1, 1, 1}, val.Int, api.ErrShort}, {[]byte{1, 1, 1, 128}, val.Int, api.ErrShort}, {[]byte{1, 1, 1, 128, 0}, val.Int, api.ErrForm},
		{[]byte{1, 1, 1, 5, 5}, val.Int, api.ErrLong}, {[]byte{1, 1, 0, 5}, val.Int, api.ErrLong}, {[]byte{1, 0, 0}, val.Int, api.ErrLong},
		{[]byte{1, 1, 1, 128, 2}, val.Bytes, api.ErrLong}, {[]byte{1, 1, 1, 2, 'a'}, val.Bytes, api.ErrShort}, {[]byte{1, 1, 1, 1, 'a', 'b'}, val.Bytes, api.ErrLong}, {[]byte{1, 1, 1, 128, 0}, val.Bytes, api.ErrForm},
		{[]byte{1, 1, 1, 2}, val.Point, api.ErrShort}, {[]byte{1, 1, 1, 2, 130, 128, 128, 1}, val.Point, api.ErrArg}, {[]byte{1, 1, 1, 2, 2, 2}, val.Point, api.ErrLong},
		{[]byte{2, 2, 3, 1, 5}, val.Int, api.ErrShort}, {[]byte{2, 2, 3, 3, 5}, val.Int, api.ErrLong}, {[]byte{2, 2, 3, 1, 5, 1, 5}, val.Int, api.ErrForm}, {[]byte{2, 2, 3, 2, 5, 1, 6}, val.Int, api.ErrLong},
		{[]byte{2, 1, 0, 1, 5}, val.Int, api.ErrLong}, {[]byte{2, 1, 1, 1}, val.Int, api.ErrShort},
		{[]byte{3, 2, 3}, val.Int, api.ErrShort}, {[]byte{3, 2, 3, 65}, val.Int, api.ErrArg}, {[]byte{3, 2, 3, 1, 2, 0}, val.Int, api.ErrLong}, {[]byte{3, 2, 3, 2, 1}, val.Int, api.ErrForm},
		{[]byte{4, 1, 1, 2}, val.Bytes, api.ErrLong}, {[]byte{4, 1, 1, 1, 1, 'a', 0, 9}, val.Bytes, api.ErrLong}, {[]byte{4, 1, 1, 1, 1, 'a'}, val.Bytes, api.ErrShort},
		{append([]byte{1, 64}, append(eight, make([]byte, 64)...)...), val.Int, api.OK}, {[]byte{4, 1, 1, 1, 1, 'a', 0}, val.Bytes, api.OK},
	} {
		if l, e := col.Get(c.b, c.kind); e != c.want || e != api.OK && len(l) != 0 {
			t.Errorf("P801: %d: Get is %v, %v; want %v", i, l, e, c.want)
		}
	}
}

func columns() map[int][][]val.Val {
	rising, alike, wild, few := []val.Val{}, []val.Val{}, []val.Val{}, []val.Val{}
	for i := range int64(64) {
		rising = append(rising, number(1<<40+3*i))
		alike = append(alike, number(1<<50))
		wild = append(wild, number(math.MinInt64+i*i*i<<40))
		few = append(few, text(strings.Repeat("w", int(i%3)*40)))
	}
	return map[int][][]val.Val{
		val.Int:   {nil, {null, null}, {number(7)}, rising, alike, wild, append([]val.Val{null}, rising[:9]...)},
		val.Bytes: {nil, {null}, {text("")}, {text("a"), text("b")}, few, append([]val.Val{null}, few[:9]...)},
		val.Point: {nil, {null, spot(api.MaxPart)}, {spot(-1i), spot(0)}},
	}
}

func TestBestIsTheShortest(t *testing.T) {
	seen := map[int]int{}
	for kind, all := range columns() {
		for i, l := range all {
			b, how, e := col.Best(l, kind)
			if e != api.OK {
				t.Fatalf("P801: Best %d of %d: %v", i, kind, e)
			}
			seen[how]++
			for h := col.Plain; h <= col.Words; h++ {
				other, e := col.Put(l, kind, h)
				if e == api.OK && (len(other) < len(b) || len(other) == len(b) && h < how) {
					t.Errorf("P801: Best %d of %d is %d, but %d is better", i, kind, how, h)
				}
				if h == how && !bytes.Equal(other, b) {
					t.Errorf("P801: Best %d of %d is not Put", i, kind)
				}
			}
			if got, e := col.Get(b, kind); !slices.Equal(got, l) || e != api.OK {
				t.Errorf("P801: Best %d of %d comes back as %v, %v", i, kind, got, e)
			}
		}
	}
	for how := col.Plain; how <= col.Words; how++ {
		if seen[how] == 0 {
			t.Errorf("%d is never the Best", how)
		}
	}
	for _, kind := range []int{0, 4} {
		if b, how, e := col.Best(nil, kind); len(b) != 0 || how != 0 || e != api.ErrKind {
			t.Errorf("P801: Best of kind %d is %v, %d, %v", kind, b, how, e)
		}
	}
	if b, how, e := col.Best([]val.Val{text("a")}, val.Int); len(b) != 0 || how != 0 || e != api.ErrKind {
		t.Errorf("P801: Best is %v, %d, %v", b, how, e)
	}
}
