package read_test

import (
	"testing"

	"noria/api"
	"noria/read"
)

func TestReadsInOrder(t *testing.T) {
	r := read.New([]byte{9, 7, 0xAC, 2, 'a', 'b', 'c'}, 1)
	if b, u, s := r.Byte(), r.Num(), r.Text(2); b != 7 || u != 300 || s != "ab" {
		t.Errorf("%d, %d, %q", b, u, s)
	}
	if r.Err() != api.OK || r.Read() != 5 || r.Left() != 1 {
		t.Errorf("%v, %d, %d", r.Err(), r.Read(), r.Left())
	}
	if b := r.Byte(); b != 'c' || r.Err() != api.OK || r.Left() != 0 {
		t.Errorf("%d, %v", b, r.Err())
	}
	all := read.New([]byte{'a', 'b'}, 0)
	if s := all.Text(2); s != "ab" || all.Err() != api.OK || all.Left() != 0 {
		t.Errorf("%q, %v", s, all.Err())
	}
}

func TestTheFirstErrorStays(t *testing.T) {
	for i, c := range []struct {
		r    *read.Reader
		want api.Errno
	}{
		{read.New(nil, 1), api.ErrArg}, {read.New(nil, -1), api.ErrArg}, {read.New(nil, 0), api.ErrShort}, {read.New([]byte{1}, 1), api.ErrShort},
	} {
		if b := c.r.Byte(); b != 0 || c.r.Err() != c.want {
			t.Errorf("%d: %d, %v", i, b, c.r.Err())
		}
		c.r.Need(false, api.ErrDeep)
		if u, s := c.r.Num(), c.r.Text(0); u != 0 || s != "" || c.r.Err() != c.want || c.r.Left() != 0 {
			t.Errorf("%d: %d, %q, %v", i, u, s, c.r.Err())
		}
	}
	r := read.New([]byte{'a', 'b'}, 0)
	if s := r.Text(1 << 63); s != "" || r.Err() != api.ErrShort {
		t.Errorf("%q, %v", s, r.Err())
	}
}
