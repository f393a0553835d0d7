package page_test

import (
	"bytes"
	"math"
	"testing"

	"noria/api"
	"noria/dev"
	"noria/num"
	"noria/page"
)

func fill(n int) []byte {
	b := make([]byte, n)
	for i := range b {
		b[i] = byte(i*7 + 1)
	}
	return b
}

// whole answers rest with its sum ahead.
func whole(rest []byte) []byte { return append(num.Put4(nil, num.Sum(rest)), rest...) }

func TestSize(t *testing.T) {
	for n, want := range map[int]int{-1: 0, math.MinInt: 0, 0: 1, 1: 1, 59: 1, 60: 2, 123: 2, 127: 3, 122: 2, 124: 3, 128: 3, 8192: 129, 8193: 0, math.MaxInt: 0} {
		if got := page.Size(n); got != want {
			t.Errorf("P1301: Size(%d) is %d, want %d", n, got, want)
		}
	}
}

func TestWrapAndUnwrap(t *testing.T) {
	for _, n := range []int{0, 1, 58, 59, 60, 122, 123, 124, 127, 128, 500, 8191, 8192} {
		data := fill(n)
		b, e := page.Wrap(data)
		if e != api.OK || len(b) != page.Size(n)*64 {
			t.Fatalf("P1301: Wrap of %d is %d bytes, %v", n, len(b), e)
		}
		want := append(num.Put(nil, uint64(n)), data...)
		want = whole(append(want, make([]byte, len(b)-4-len(want))...))
		if !bytes.Equal(b, want) {
			t.Errorf("P1301: Wrap of %d is other bytes", n)
		}
		if got, e := page.Unwrap(b); !bytes.Equal(got, data) || e != api.OK {
			t.Errorf("P1301: Unwrap of %d is %d bytes, %v", n, len(got), e)
		}
		for _, i := range []int{0, 3, 4, len(b) / 2, len(b) - 1} {
			b[i] ^= 0x10
			if got, e := page.Unwrap(b); len(got) != 0 || e != api.ErrPage {
				t.Errorf("P1301: Unwrap of %d with byte %d changed is %d bytes, %v", n, i, len(got), e)
			}
			b[i] ^= 0x10
		}
	}
	if b, e := page.Wrap(make([]byte, 8193)); len(b) != 0 || e != api.ErrLong {
		t.Errorf("P1301: Wrap of too many is %d bytes, %v", len(b), e)
	}
}

func TestUnwrapRefuses(t *testing.T) {
	rest := func(n int, b ...byte) []byte { return append(b, make([]byte, n-4-len(b))...) }
	dirty := rest(64, 1, 5)
	dirty[59] = 1
	for i, b := range [][]byte{
		nil, make([]byte, 63), make([]byte, 65), bytes.Repeat([]byte{1}, 64), whole(rest(128, 5)), whole(rest(64, 60)), whole(rest(64, 128, 0)), whole(rest(64, 128, 128)), whole(dirty), whole(rest(64, 1, 5, 1)),
		whole(rest(130*64, 129, 64)), whole(bytes.Repeat([]byte{255}, 60)), whole(rest(64, 255, 255, 255, 255, 255, 255, 255, 255, 255, 1)), whole(rest(32, 1, 1)),
	} {
		if got, e := page.Unwrap(b); len(got) != 0 || e != api.ErrPage {
			t.Errorf("P1301: %d: Unwrap is %v, %v", i, got, e)
		}
	}
	if got, e := page.Unwrap(whole(rest(64, 1, 5))); !bytes.Equal(got, []byte{5}) || e != api.OK {
		t.Errorf("P1301: Unwrap is %v, %v", got, e)
	}
}

func TestWriteAndRead(t *testing.T) {
	d, _ := dev.New(8)
	if e := page.Write(d, 5, fill(150)); e != api.OK || d.Waits() != 3 {
		t.Errorf("P1301: Write is %v, %d wait", e, d.Waits())
	}
	if b, e := page.Read(d, 5, 3); !bytes.Equal(b, fill(150)) || e != api.OK {
		t.Errorf("P1301: Read is %v, %v", b, e)
	}
	whole, _ := dev.New(4)
	if e := page.Write(whole, 0, fill(240)); e != api.OK {
		t.Errorf("P1301: Write of all blocks is %v", e)
	}
	if b, e := page.Read(whole, 0, 4); !bytes.Equal(b, fill(240)) || e != api.OK {
		t.Errorf("P1301: Read of all blocks is %v, %v", b, e)
	}
	wrapped, _ := page.Wrap(fill(150))
	if !bytes.Equal(d.Bytes()[5*64:], wrapped) {
		t.Error("P1301: Write lays other bytes")
	}
	for _, c := range [][2]int{{-1, 1}, {0, 0}, {0, -1}, {8, 1}, {7, 2}, {0, 9}, {6, 3}, {math.MaxInt, 1}, {1, math.MaxInt}, {math.MinInt, 3}, {math.MaxInt, math.MaxInt}, {math.MinInt, math.MinInt}} {
		if b, e := page.Read(d, c[0], c[1]); len(b) != 0 || e != api.ErrDevice {
			t.Errorf("P1301: Read%v is %v, %v", c, b, e)
		}
	}
	for _, c := range [][2]int{{5, 2}, {0, 1}, {4, 4}, {6, 2}} {
		if b, e := page.Read(d, c[0], c[1]); len(b) != 0 || e != api.ErrPage {
			t.Errorf("P1301: Read%v is %v, %v", c, b, e)
		}
	}
	before := d.Bytes()
	for _, at := range []int{-1, 6, 8, math.MaxInt, math.MinInt} {
		if e := page.Write(d, at, fill(150)); e != api.ErrDevice {
			t.Errorf("P1301: Write at %d is %v", at, e)
		}
	}
	if e := page.Write(d, -1, make([]byte, 8193)); e != api.ErrLong {
		t.Errorf("P1301: Write of too many is %v", e)
	}
	if e := page.Write(d, 0, make([]byte, 8192)); e != api.ErrDevice {
		t.Errorf("P1301: Write of more than there is is %v", e)
	}
	if !bytes.Equal(before, d.Bytes()) || d.Waits() != 3 {
		t.Error("P5: what failed has changed the device")
	}
}
