package num_test

import (
	"bytes"
	"hash/crc32"
	"math"
	"testing"

	"noria/api"
	"noria/num"
)

func TestPutAndGetRoundTrip(t *testing.T) {
	numbers := []uint64{0, 1, 127, 128, 129, 300, 1<<32 - 1, 1 << 32, math.MaxInt64, math.MaxUint64}
	for k := 0; k < 64; k++ {
		numbers = append(numbers, 1<<k, 1<<k-1, 1<<k+1)
	}
	for _, u := range numbers {
		b := num.Put([]byte{5, 6}, u)
		want := 1
		for v := u >> 7; v > 0; v >>= 7 {
			want++
		}
		if len(b) != 2+want || b[0] != 5 || b[1] != 6 {
			t.Errorf("P101: Put(%d) is %v", u, b)
		}
		got, n, e := num.Get(append(b, 0, 255), 2)
		if got != u || n != want || e != api.OK {
			t.Errorf("P101: Get of %v: %d, %d, %v", b, got, n, e)
		}
		for cut := 2; cut < len(b); cut++ {
			if got, n, e := num.Get(b[:cut], 2); got != 0 || n != 0 || e != api.ErrShort {
				t.Errorf("P101: Get of %v: %d, %d, %v", b[:cut], got, n, e)
			}
		}
	}
	if b := num.Put(nil, 300); !bytes.Equal(b, []byte{0xAC, 2}) {
		t.Errorf("P101: Put(300) is %v", b)
	}
}

func TestGetRefuses(t *testing.T) {
	nine := bytes.Repeat([]byte{255}, 9)
	for i, c := range []struct {
		b    []byte
		at   int
		want api.Errno
	}{
		{nil, -1, api.ErrArg}, {nil, 1, api.ErrArg}, {nil, 0, api.ErrShort},
		{[]byte{1, 2}, 3, api.ErrArg}, {[]byte{1, 2}, math.MinInt, api.ErrArg}, {[]byte{1, 2}, math.MaxInt, api.ErrArg},
		{[]byte{1, 2}, 2, api.ErrShort}, {[]byte{1, 2}, 1, api.OK}, {[]byte{0}, 0, api.OK},
		{[]byte{129, 0}, 0, api.ErrForm}, {[]byte{128, 128, 0}, 0, api.ErrForm},
		{nine, 0, api.ErrShort}, {append(nine[:9:9], 1), 0, api.OK}, {append(nine[:9:9], 0), 0, api.ErrForm},
		{append(nine[:9:9], 2), 0, api.ErrForm}, {append(nine[:9:9], 129), 0, api.ErrForm},
		{append(nine[:9:9], 128, 1), 0, api.ErrForm},
	} {
		u, n, e := num.Get(c.b, c.at)
		if e != c.want || e != api.OK && (u != 0 || n != 0) {
			t.Errorf("P101: %d: %d, %d, %v; want %v", i, u, n, e, c.want)
		}
	}
}

func TestZigAndZag(t *testing.T) {
	for _, c := range []struct {
		n int64
		u uint64
	}{
		{0, 0}, {-1, 1}, {1, 2}, {-2, 3}, {2, 4}, {-64, 127}, {64, 128},
		{math.MaxInt64, math.MaxUint64 - 1}, {math.MinInt64, math.MaxUint64},
	} {
		if u := num.Zig(c.n); u != c.u {
			t.Errorf("P101: Zig(%d) is %d", c.n, u)
		}
		if n := num.Zag(c.u); n != c.n {
			t.Errorf("P101: Zag(%d) is %d", c.u, n)
		}
	}
}

func TestSumIsTheCRC(t *testing.T) {
	var b []byte
	for i := 0; i < 300; i++ {
		if got, want := num.Sum(b), crc32.ChecksumIEEE(b); got != want {
			t.Fatalf("P101: Sum of %d bytes is %x, want %x", i, got, want)
		}
		b = append(b, byte(i*i+7))
	}
}

func TestPut4AndGet4(t *testing.T) {
	b := num.Put4([]byte{9}, 0xFEDCBA98)
	if !bytes.Equal(b, []byte{9, 0x98, 0xBA, 0xDC, 0xFE}) {
		t.Errorf("P101: Put4 is %v", b)
	}
	for i, c := range []struct {
		at   int
		u    uint32
		n    int
		want api.Errno
	}{
		{1, 0xFEDCBA98, 4, api.OK}, {0, 0xDCBA9809, 4, api.OK}, {2, 0, 0, api.ErrShort}, {5, 0, 0, api.ErrShort},
		{6, 0, 0, api.ErrArg}, {-1, 0, 0, api.ErrArg}, {math.MaxInt, 0, 0, api.ErrArg},
	} {
		if u, n, e := num.Get4(b, c.at); u != c.u || n != c.n || e != c.want {
			t.Errorf("P101: %d: %x, %d, %v", i, u, n, e)
		}
	}
}

func TestSpareRoomIsLetBe(t *testing.T) {
	b := []byte{1, 2, 3, 4, 5, 6, 7, 8, 9, 10, 11, 12}
	one, two := num.Put(b[:1], 1<<40), num.Put4(b[:1], 99)
	if !bytes.Equal(b, []byte{1, 2, 3, 4, 5, 6, 7, 8, 9, 10, 11, 12}) {
		t.Errorf("P2: what was handed in is %v", b)
	}
	one[0], two[0] = 77, 78
	if b[0] != 1 {
		t.Error("P2: an answer shares memory with what was handed in")
	}
}
