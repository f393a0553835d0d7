package schema_test

import (
	"bytes"
	"slices"
	"strings"
	"testing"

	"noria/api"
	"noria/schema"
	"noria/val"
)

type cols = schema.Schema

func number(n int64) val.Val    { return val.Val{Kind: val.Int, N: n} }
func text(s string) val.Val     { return val.Val{Kind: val.Bytes, S: s} }
func spot(c complex128) val.Val { return val.Val{Kind: val.Point, C: c} }

func three() cols { return cols{{"id", val.Int}, {"word", val.Bytes}, {"at", val.Point}} }

func many(n int) cols {
	var s cols
	for i := range n {
		s = append(s, schema.Col{Name: strings.Repeat("z", i+1), Kind: val.Int})
	}
	return s
}

func wrong() []struct {
	s    cols
	want api.Errno
} {
	return []struct {
		s    cols
		want api.Errno
	}{
		{nil, api.ErrLong}, {many(9), api.ErrLong}, {make(cols, 9), api.ErrLong}, {cols{{"", 1}}, api.ErrName}, {cols{{"abcdefghi", 1}}, api.ErrName}, {cols{{"A", 1}}, api.ErrName},
		{cols{{"a1", 1}}, api.ErrName}, {cols{{"a`", 1}}, api.ErrName}, {cols{{"a{", 1}}, api.ErrName}, {cols{{"é", 1}}, api.ErrName}, {cols{{"a", 0}}, api.ErrKind}, {cols{{"a", 4}}, api.ErrKind}, {cols{{"a", -1}}, api.ErrKind},
		{cols{{"a", 1}, {"a", 1}}, api.ErrTwice}, {cols{{"a", 1}, {"b", 1}, {"a", 9}}, api.ErrTwice}, {cols{{"a", 9}, {"a", 1}}, api.ErrKind}, {cols{{"a", 1}, {"", 9}}, api.ErrName}, {cols{{"", 1}, {"", 1}}, api.ErrName},
	}
}

func TestCheck(t *testing.T) {
	for _, s := range []cols{three(), many(8), {{"a", val.Int}}, {{"abcdefgh", val.Bytes}}} {
		if e := schema.Check(s); e != api.OK {
			t.Errorf("P1001: Check of %v is %v", s, e)
		}
	}
	for i, c := range wrong() {
		if e := schema.Check(c.s); e != c.want {
			t.Errorf("P1001: %d: Check is %v, want %v", i, e, c.want)
		}
		b, e := schema.Put([]byte{1, 2}, c.s)
		if e != c.want || !bytes.Equal(b, []byte{1, 2}) {
			t.Errorf("P1001: %d: Put is %v, %v", i, b, e)
		}
	}
}

func TestFind(t *testing.T) {
	s := append(three(), schema.Col{Name: "id", Kind: val.Bytes})
	for name, want := range map[string]int{"id": 0, "word": 1, "at": 2} {
		if i, ok := schema.Find(s, name); i != want || !ok {
			t.Errorf("P1001: Find of %q is %d, %v", name, i, ok)
		}
	}
	for _, name := range []string{"", "i", "idd", "ID"} {
		if i, ok := schema.Find(s, name); i != 0 || ok {
			t.Errorf("P1001: Find of %q is %d, %v", name, i, ok)
		}
	}
}

func TestSame(t *testing.T) {
	if !schema.Same(three(), three()) || !schema.Same(nil, cols{}) {
		t.Error("P1001: not the Same")
	}
	for i, s := range []cols{nil, three()[:2], append(three(), schema.Col{}), {{"id", val.Int}, {"word", val.Int}, {"at", val.Point}}, {{"id", val.Int}, {"at", val.Bytes}, {"at", val.Point}}} {
		if schema.Same(three(), s) || schema.Same(s, three()) {
			t.Errorf("P1001: %d is the Same", i)
		}
	}
}

func TestRowAndTurned(t *testing.T) {
	good := []val.Val{number(1), text("a"), spot(1i)}
	for i, c := range []struct {
		r    []val.Val
		want api.Errno
	}{
		{good, api.OK}, {make([]val.Val, 3), api.OK}, {nil, api.ErrLong}, {good[:2], api.ErrLong}, {make([]val.Val, 4), api.ErrLong}, {[]val.Val{{N: 1}, {}, {}}, api.ErrArg},
		{[]val.Val{text("a"), {N: 1}, {}}, api.ErrKind}, {[]val.Val{{}, text(strings.Repeat("a", 256)), number(1)}, api.ErrLong}, {[]val.Val{{}, {}, {Kind: 9}}, api.ErrKind},
	} {
		if e := schema.Row(three(), c.r); e != c.want {
			t.Errorf("P1001: %d: Row is %v, want %v", i, e, c.want)
		}
		if l, e := schema.Turned(three(), [][]val.Val{good, c.r}); e != c.want || e != api.OK && len(l) != 0 {
			t.Errorf("P1001: %d: Turned is %v, %v", i, l, e)
		}
	}
	l, e := schema.Turned(three(), [][]val.Val{good, {number(2), {}, {}}})
	if e != api.OK || len(l) != 3 || !slices.Equal(l[0], []val.Val{number(1), number(2)}) || !slices.Equal(l[1], []val.Val{text("a"), {}}) || !slices.Equal(l[2], []val.Val{spot(1i), {}}) {
		t.Errorf("P1001: Turned is %v, %v", l, e)
	}
	rows := make([][]val.Val, 65)
	for i := range rows {
		rows[i] = good
	}
	for n, want := range map[int]api.Errno{0: api.ErrLong, 1: api.OK, 64: api.OK, 65: api.ErrLong} {
		if _, e := schema.Turned(three(), rows[:n]); e != want {
			t.Errorf("P1001: Turned of %d rows is %v", n, e)
		}
	}
}

func TestPutAndGet(t *testing.T) {
	b, e := schema.Put([]byte{9}, three())
	want := []byte{9, 3, 2, 'i', 'd', 1, 4, 'w', 'o', 'r', 'd', 2, 2, 'a', 't', 3}
	if !bytes.Equal(b, want) || e != api.OK {
		t.Errorf("P1001: Put is %v, %v", b, e)
	}
	s, n, e := schema.Get(append(b, 7), 1)
	if !schema.Same(s, three()) || n != len(want)-1 || e != api.OK {
		t.Errorf("P1001: Get is %v, %d, %v", s, n, e)
	}
	widest, _ := schema.Put(nil, many(8))
	if s, n, e := schema.Get(widest, 0); !schema.Same(s, many(8)) || n != len(widest) || e != api.OK {
		t.Errorf("P1001: Get of the widest is %v, %d, %v", s, n, e)
	}
	for cut := 1; cut < len(want); cut++ {
		if s, n, e := schema.Get(want[:cut], 1); len(s) != 0 || n != 0 || e != api.ErrShort {
			t.Errorf("P1001: Get of %v is %v, %d, %v", want[:cut], s, n, e)
		}
	}
	for i, c := range []struct {
		b    []byte
		at   int
		want api.Errno
	}{
		{nil, -1, api.ErrArg}, {nil, 1, api.ErrArg}, {[]byte{128, 0}, 0, api.ErrForm}, {[]byte{0}, 0, api.ErrLong}, {[]byte{9}, 0, api.ErrLong}, {[]byte{255, 255, 255, 255, 255, 255, 255, 255, 255, 1}, 0, api.ErrLong},
		{[]byte{1, 128, 0}, 0, api.ErrForm}, {[]byte{1, 200, 1, 'a'}, 0, api.ErrShort}, {[]byte{1, 255, 255, 255, 255, 255, 255, 255, 255, 255, 1, 1}, 0, api.ErrShort}, {[]byte{1, 1, 'a'}, 0, api.ErrShort},
		{[]byte{1, 0, 1}, 0, api.ErrName}, {[]byte{1, 1, 'A', 1}, 0, api.ErrName}, {[]byte{1, 9, 'a', 'a', 'a', 'a', 'a', 'a', 'a', 'a', 'a', 1}, 0, api.ErrName}, {[]byte{2, 1, 'a', 1, 1, 'a', 1}, 0, api.ErrTwice},
		{[]byte{1, 1, 'a', 0}, 0, api.ErrKind}, {[]byte{1, 1, 'a', 4}, 0, api.ErrKind}, {[]byte{2, 0, 9, 1}, 0, api.ErrShort},
	} {
		if s, n, e := schema.Get(c.b, c.at); len(s) != 0 || n != 0 || e != c.want {
			t.Errorf("P1001: %d: Get is %v, %d, %v; want %v", i, s, n, e, c.want)
		}
	}
}

func TestSpareRoomIsLetBe(t *testing.T) {
	room := bytes.Repeat([]byte{5}, 40)
	schema.Put(room[:1], three())
	if b, _ := schema.Put(room[:1], nil); len(b) == 1 {
		b[0] = 9
	}
	if !bytes.Equal(room, bytes.Repeat([]byte{5}, 40)) {
		t.Errorf("P2: what was handed in is %v", room)
	}
}
