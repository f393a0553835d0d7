package dev_test

import (
	"bytes"
	"math"
	"testing"

	"noria/api"
	"noria/dev"
)

func block(c byte) []byte { return bytes.Repeat([]byte{c}, api.Block) }

func fresh(t *testing.T, blocks int) *dev.Device {
	t.Helper()
	d, e := dev.New(blocks)
	if e != api.OK {
		t.Fatalf("P1201: New(%d) is %v", blocks, e)
	}
	return d
}

// firsts answers the first byte of each block, as Read and Bytes tell them.
func firsts(t *testing.T, d *dev.Device) string {
	t.Helper()
	var out []byte
	all := d.Bytes()
	for i := range d.Blocks() {
		b, e := d.Read(i)
		if e != api.OK || !bytes.Equal(b, all[i*api.Block:(i+1)*api.Block]) {
			t.Errorf("P1201: Read(%d) is %v, %v", i, b, e)
		}
		out = append(out, b[0]+'0')
	}
	return string(out)
}

func TestNewAndOf(t *testing.T) {
	for blocks, want := range map[int]api.Errno{-1: api.ErrArg, 0: api.ErrArg, 3: api.ErrArg, 4: api.OK, 1024: api.OK, 1025: api.ErrArg, math.MaxInt: api.ErrArg, math.MinInt: api.ErrArg} {
		d, e := dev.New(blocks)
		if e != want || (d == nil) != (e != api.OK) {
			t.Errorf("P1201: New(%d) is %v, %v", blocks, d, e)
		}
		if e == api.OK && (d.Blocks() != blocks || !bytes.Equal(d.Bytes(), make([]byte, blocks*64)) || d.Waits() != 0) {
			t.Errorf("P1201: New(%d) is not all 0", blocks)
		}
	}
	for n, want := range map[int]api.Errno{0: api.ErrArg, 64: api.ErrArg, 192: api.ErrArg, 255: api.ErrArg, 256: api.OK, 257: api.ErrArg, 65536: api.OK, 65600: api.ErrArg, 65537: api.ErrArg} {
		b := bytes.Repeat([]byte{3}, n)
		d, e := dev.Of(b)
		if e != want || (d == nil) != (e != api.OK) {
			t.Errorf("P1201: Of %d bytes is %v, %v", n, d, e)
		}
		if e == api.OK {
			b[0] = 9
			if d.Blocks() != n/64 || !bytes.Equal(d.Bytes(), bytes.Repeat([]byte{3}, n)) {
				t.Errorf("P1201: Of %d bytes has other ones", n)
			}
		}
	}
}

func TestReadAndWriteRefuse(t *testing.T) {
	d := fresh(t, 4)
	for _, i := range []int{-1, 4, math.MaxInt, math.MinInt} {
		if b, e := d.Read(i); len(b) != 0 || e != api.ErrArg {
			t.Errorf("P1201: Read(%d) is %v, %v", i, b, e)
		}
		if e := d.Write(i, block(1)); e != api.ErrArg {
			t.Errorf("P1201: Write(%d) is %v", i, e)
		}
	}
	for _, n := range []int{0, 63, 65, 128} {
		if e := d.Write(0, make([]byte, n)); e != api.ErrArg {
			t.Errorf("P1201: Write of %d bytes is %v", n, e)
		}
	}
	if d.Waits() != 0 || firsts(t, d) != "0000" {
		t.Error("P5: what failed has changed the device")
	}
}

func write(t *testing.T, d *dev.Device, i int, c byte) {
	t.Helper()
	if e := d.Write(i, block(c)); e != api.OK {
		t.Fatalf("P1201: Write(%d) is %v", i, e)
	}
}

func TestCrashKeepsWhatItIsTold(t *testing.T) {
	for mask := range 16 {
		d := fresh(t, 4)
		write(t, d, 0, 9)
		d.Sync()
		for i, c := range []byte{1, 2, 3, 4} {
			write(t, d, []int{0, 1, 0, 1}[i], c)
		}
		if d.Waits() != 4 || firsts(t, d) != "3400" {
			t.Errorf("P1201: %d wait, %s", d.Waits(), firsts(t, d))
		}
		keep, want := make([]bool, 4), []byte("9000")
		for i := range keep {
			if keep[i] = mask>>i&1 == 1; keep[i] {
				want[i%2] = byte('1' + i)
			}
		}
		twin := d.Twin()
		d.Crash(keep)
		if firsts(t, d) != string(want) || d.Waits() != 0 {
			t.Errorf("P1201: Crash(%v) leaves %s", keep, firsts(t, d))
		}
		d.Crash([]bool{true, true, true, true})
		if firsts(t, d) != string(want) {
			t.Error("P1201: what is gone has come back")
		}
		if twin.Waits() != 4 || firsts(t, twin) != "3400" {
			t.Error("P1201: the Twin is not by itself")
		}
		twin.Sync()
		twin.Crash(nil)
		if firsts(t, twin) != "3400" || twin.Waits() != 0 {
			t.Errorf("P1201: behind Sync and Crash there is %s", firsts(t, twin))
		}
	}
}

func TestCrashOfOtherLengths(t *testing.T) {
	for want, keep := range map[string][]bool{"0000": nil, "1000": {true}, "0200": {false, true}, "1200": {true, true, true, true, true}} {
		d := fresh(t, 4)
		write(t, d, 0, 1)
		write(t, d, 1, 2)
		d.Crash(keep)
		if got := firsts(t, d); got != want {
			t.Errorf("P1201: Crash(%v) leaves %s, want %s", keep, got, want)
		}
	}
}

func TestNothingIsShared(t *testing.T) {
	d := fresh(t, 4)
	b := block(5)
	d.Write(1, b)
	b[0] = 6
	d.Bytes()[0] = 7
	r, _ := d.Read(0)
	r[0] = 8
	if firsts(t, d) != "0500" {
		t.Errorf("P2: %s", firsts(t, d))
	}
	twin := d.Twin()
	twin.Write(0, block(1))
	d.Write(2, block(2))
	if firsts(t, d) != "0520" || firsts(t, twin) != "1500" || d.Waits() != 2 || twin.Waits() != 2 {
		t.Errorf("P1201: %s, %s", firsts(t, d), firsts(t, twin))
	}
	d.Crash([]bool{true})
	twin.Crash([]bool{true})
	if firsts(t, d) != "0500" || firsts(t, twin) != "0500" {
		t.Errorf("P1201: %s, %s", firsts(t, d), firsts(t, twin))
	}
}
