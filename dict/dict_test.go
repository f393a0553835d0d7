package dict_test

import (
	"bytes"
	"fmt"
	"slices"
	"strings"
	"testing"

	"noria/api"
	"noria/dict"
)

func TestBuild(t *testing.T) {
	for i, c := range []struct {
		l, words []string
		places   []uint64
	}{
		{nil, nil, nil}, {[]string{""}, []string{""}, []uint64{0}}, {[]string{"b", "a", "b"}, []string{"a", "b"}, []uint64{1, 0, 1}},
		{[]string{"a", "\xff", "B", "aa", "", "a"}, []string{"", "B", "a", "aa", "\xff"}, []uint64{2, 4, 1, 3, 0, 2}},
	} {
		words, places := dict.Build(c.l)
		if !slices.Equal(words, c.words) || !slices.Equal(places, c.places) {
			t.Errorf("P701: %d: Build is %q, %v", i, words, places)
		}
	}
	var l []string
	for i := range 1000 {
		l = append(l, fmt.Sprint(i*7919%613))
	}
	before := slices.Clone(l)
	words, places := dict.Build(l)
	if !slices.Equal(l, before) {
		t.Error("P2: what was handed in has changed")
	}
	if len(words) != 613 || !slices.IsSorted(words) {
		t.Errorf("P701: Build has %d words", len(words))
	}
	for i, p := range places {
		if words[p] != l[i] {
			t.Fatalf("P701: the place of %q is that of %q", l[i], words[p])
		}
	}
}

func TestPutAndGet(t *testing.T) {
	for i, c := range []struct {
		l []string
		b []byte
	}{
		{nil, []byte{0, 0}}, {[]string{""}, []byte{1, 0, 0}}, {[]string{"b", "a", "b"}, []byte{2, 1, 'a', 1, 'b', 1, 0b101}},
		{[]string{"x", "x"}, []byte{1, 1, 'x', 0}},
	} {
		if got, e := dict.Put(c.l); !bytes.Equal(got, c.b) || e != api.OK {
			t.Errorf("P701: %d: Put is %v, %v", i, got, e)
		}
		if got, e := dict.Get(c.b, len(c.l)); !slices.Equal(got, c.l) || e != api.OK {
			t.Errorf("P701: %d: Get is %q, %v", i, got, e)
		}
	}
	most := make([]string, 4096)
	for i := range most {
		most[i] = strings.Repeat("z", 200) + fmt.Sprint(i)
	}
	most[0] = strings.Repeat("y", 255)
	b, e := dict.Put(most)
	if e != api.OK {
		t.Fatalf("P701: Put of the most: %v", e)
	}
	if got, e := dict.Get(b, 4096); !slices.Equal(got, most) || e != api.OK {
		t.Errorf("P701: Get of the most: %v", e)
	}
	for _, l := range [][]string{make([]string, 4097), {"a", strings.Repeat("y", 256)}} {
		if b, e := dict.Put(l); len(b) != 0 || e != api.ErrLong {
			t.Errorf("P701: Put of %d is %d bytes, %v", len(l), len(b), e)
		}
	}
}

func TestGetRefuses(t *testing.T) {
	for i, c := range []struct {
		b    []byte
		n    int
		want api.Errno
	}{
		{nil, -1, api.ErrArg}, {nil, 4097, api.ErrArg}, {nil, 0, api.ErrShort}, {[]byte{128, 0}, 1, api.ErrForm}, {[]byte{2}, 1, api.ErrLong}, {[]byte{1}, 0, api.ErrLong},
		{[]byte{1}, 1, api.ErrShort}, {[]byte{1, 128, 0}, 1, api.ErrForm}, {[]byte{1, 128, 2}, 1, api.ErrLong}, {[]byte{1, 255, 1, 'a'}, 1, api.ErrShort},
		{[]byte{1, 2, 'a'}, 1, api.ErrShort}, {[]byte{2, 1, 'b', 1, 'a', 1, 2}, 2, api.ErrForm}, {[]byte{2, 1, 'a', 1, 'a', 1, 2}, 2, api.ErrForm},
		{[]byte{2, 1, 'b', 1, 'a'}, 2, api.ErrForm}, {[]byte{1, 1, 'a'}, 1, api.ErrShort}, {[]byte{1, 1, 'a', 65}, 1, api.ErrArg},
		{[]byte{2, 1, 'a', 1, 'b', 1}, 2, api.ErrShort}, {[]byte{2, 1, 'a', 1, 'b', 1, 2, 0}, 2, api.ErrLong}, {[]byte{2, 1, 'a', 1, 'b', 1, 6}, 2, api.ErrForm},
		{[]byte{2, 1, 'a', 1, 'b', 2, 4}, 2, api.ErrForm}, {[]byte{2, 1, 'a', 1, 'b', 2, 8}, 2, api.ErrForm}, {[]byte{2, 1, 'a', 1, 'b', 0}, 2, api.ErrForm},
		{[]byte{1, 1, 'a', 1, 1}, 1, api.ErrForm}, {[]byte{1, 1, 'a', 1, 0}, 1, api.ErrForm}, {[]byte{0, 0}, 1, api.ErrForm}, {[]byte{0, 1}, 0, api.ErrForm}, {[]byte{0}, 0, api.ErrShort},
		{[]byte{2, 1, 'a', 1, 'b', 1, 2}, 2, api.OK},
	} {
		if l, e := dict.Get(c.b, c.n); e != c.want || e != api.OK && len(l) != 0 {
			t.Errorf("P701: %d: Get is %q, %v; want %v", i, l, e, c.want)
		}
	}
}
