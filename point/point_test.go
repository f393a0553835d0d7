package point_test

import (
	"bytes"
	"math"
	"testing"

	"noria/api"
	"noria/num"
	"noria/point"
)

const far = api.MaxPart

// exact tells whether both are the same to the last sign.
func exact(a, b complex128) bool {
	return math.Float64bits(real(a)) == math.Float64bits(real(b)) && math.Float64bits(imag(a)) == math.Float64bits(imag(b))
}

func below0() float64 { return math.Copysign(0, -1) }

func TestGood(t *testing.T) {
	for _, c := range []complex128{0, 1, -1, 1i, 3 - 4i, far + far*1i, -far - far*1i, complex(below0(), below0())} {
		if !point.Good(c) {
			t.Errorf("P201: %v is not Good", c)
		}
	}
	nan, inf := math.NaN(), math.Inf(1)
	for _, f := range []float64{0.5, -0.25, far + 1, -far - 1, far + 0.5, 1e300, -1e300, nan, inf, -inf, 1 << 63} {
		if point.Good(complex(f, 0)) || point.Good(complex(0, f)) || point.Good(complex(f, f)) {
			t.Errorf("P201: %v is Good", f)
		}
	}
}

func TestSumTurnMirrorNorm(t *testing.T) {
	if got := point.Sum([]complex128{1 + 2i, -3 + 4i, far}); got != far-2+6i {
		t.Errorf("P201: Sum is %v", got)
	}
	if got := point.Sum(nil); !exact(got, 0) {
		t.Errorf("P201: Sum of none is %v", got)
	}
	if got := point.Sum([]complex128{complex(below0(), below0())}); !exact(got, 0) {
		t.Errorf("P201: Sum is %v", got)
	}
	c := 3 + 4i
	turned := []complex128{c, -4 + 3i, -3 - 4i, 4 - 3i}
	for _, n := range []int{0, 1, 2, 3, 4, 5, -1, -2, -3, -4, -5, math.MaxInt, math.MinInt, math.MinInt + 1} {
		if got, want := point.Turn(c, n), turned[n&3]; got != want {
			t.Errorf("P201: Turn by %d is %v", n, got)
		}
	}
	for n := range 4 {
		for _, c := range []complex128{0, 1, -1, 1i, -1i} {
			got := point.Turn(c, n)
			if math.Signbit(real(got)) && real(got) == 0 || math.Signbit(imag(got)) && imag(got) == 0 {
				t.Errorf("P201: Turn of %v by %d is %v", c, n, got)
			}
		}
	}
	if got := point.Mirror(3 + 4i); got != 3-4i {
		t.Errorf("P201: Mirror is %v", got)
	}
	if got := point.Mirror(3); !exact(got, 3) {
		t.Errorf("P201: Mirror is %v", got)
	}
	for c, want := range map[complex128]int64{0: 0, 3 + 4i: 25, -3 - 4i: 25, 2i: 4, far - far*1i: 2 << 40} {
		if got := point.Norm(c); got != want {
			t.Errorf("P201: Norm of %v is %d", c, got)
		}
	}
}

func TestBoxes(t *testing.T) {
	b := point.Box{Low: -1 - 2i, High: 3 + 4i}
	for _, c := range []complex128{-1 - 2i, 3 + 4i, -1 + 4i, 3 - 2i, 0} {
		if !point.In(c, b) {
			t.Errorf("P201: %v is not In", c)
		}
	}
	for _, c := range []complex128{-2, 4, 5i, -3i, -2 - 3i, 4 + 5i} {
		if point.In(c, b) {
			t.Errorf("P201: %v is In", c)
		}
	}
	if h, ok := point.Hull(nil); ok || h != (point.Box{}) {
		t.Errorf("P201: Hull of none is %v, %v", h, ok)
	}
	if h, ok := point.Hull([]complex128{3 - 2i, -1 + 4i, 0}); !ok || h != (point.Box{Low: -1 - 2i, High: 3 + 4i}) {
		t.Errorf("P201: Hull is %v, %v", h, ok)
	}
	if h, ok := point.Hull([]complex128{7 - 7i}); !ok || h != (point.Box{Low: 7 - 7i, High: 7 - 7i}) {
		t.Errorf("P201: Hull is %v, %v", h, ok)
	}
	if h, ok := point.Hull([]complex128{complex(below0(), below0())}); !ok || !exact(h.Low, 0) || !exact(h.High, 0) {
		t.Errorf("P201: Hull is %v, %v", h, ok)
	}
	for i, c := range []struct {
		b    point.Box
		want bool
	}{
		{b, true}, {point.Box{Low: 3 + 4i, High: 9 + 9i}, true}, {point.Box{Low: 4, High: 9 + 9i}, false},
		{point.Box{Low: -9 - 9i, High: -1 - 2i}, true}, {point.Box{Low: -9 - 9i, High: -2 + 9i}, false},
		{point.Box{Low: -9 + 5i, High: 9 + 9i}, false}, {point.Box{Low: -9 - 9i, High: 9 - 3i}, false},
		{point.Box{}, true}, {point.Box{Low: -9 - 9i, High: 9 + 9i}, true},
	} {
		if point.Meet(b, c.b) != c.want || point.Meet(c.b, b) != c.want {
			t.Errorf("P201: Meet %d is not %v", i, c.want)
		}
	}
}

func TestPutAndGet(t *testing.T) {
	for _, c := range []complex128{0, 3 + 4i, -3 - 4i, far + far*1i, -far - far*1i, 64, -64i} {
		want := num.Put(num.Put([]byte{9}, num.Zig(int64(real(c)))), num.Zig(int64(imag(c))))
		b := point.Put([]byte{9}, c)
		if !bytes.Equal(b, want) {
			t.Errorf("P201: Put of %v is %v", c, b)
		}
		got, n, e := point.Get(append(b, 1), 1)
		if got != c || n != len(b)-1 || e != api.OK {
			t.Errorf("P201: Get of %v is %v, %d, %v", b, got, n, e)
		}
	}
	beyond, least := num.Put(nil, num.Zig(far+1)), num.Put(nil, num.Zig(-far-1))
	huge := num.Put(nil, math.MaxUint64)
	for i, c := range []struct {
		b    []byte
		at   int
		want api.Errno
	}{
		{nil, 0, api.ErrShort}, {nil, 1, api.ErrArg}, {nil, -1, api.ErrArg}, {[]byte{1}, 0, api.ErrShort},
		{[]byte{128, 0}, 0, api.ErrForm}, {[]byte{1, 128, 0}, 0, api.ErrForm}, {append(beyond[:len(beyond):len(beyond)], 1), 0, api.ErrArg},
		{append([]byte{1}, beyond...), 0, api.ErrArg}, {append([]byte{1}, least...), 0, api.ErrArg}, {append(huge[:len(huge):len(huge)], 1), 0, api.ErrArg},
		{beyond, 0, api.ErrShort}, {append(beyond[:len(beyond):len(beyond)], 128, 0), 0, api.ErrForm}, {[]byte{1, 2}, 1, api.ErrShort},
	} {
		if got, n, e := point.Get(c.b, c.at); got != 0 || n != 0 || e != c.want {
			t.Errorf("P201: %d: %v, %d, %v; want %v", i, got, n, e, c.want)
		}
	}
}

func TestText(t *testing.T) {
	for s, c := range map[string]complex128{
		"3+4i": 3 + 4i, "-3-4i": -3 - 4i, "0+0i": 0, "1048576-1048576i": far - far*1i, "10+0i": 10, "0-1i": -1i,
	} {
		if got := point.Text(c); got != s {
			t.Errorf("P201: Text of %v is %q", c, got)
		}
		if got, e := point.Parse(s); got != c || e != api.OK {
			t.Errorf("P201: Parse of %q is %v, %v", s, got, e)
		}
	}
	if got := point.Text(complex(below0(), below0())); got != "0+0i" {
		t.Errorf("P201: Text is %q", got)
	}
	for _, s := range []string{
		"", "i", "3", "3i", "4+i", "+3+4i", "3+4", "3+4I", "3+4i ", " 3+4i", "3++4i", "3+-4i", "3--4i", "-0+0i", "0-0i", "03+4i", "3+04i",
		"3+4ii", "3+4j", "--3+4i", "3.0+4i", "0x3+4i", "3 +4i", "99999999+01i", "-+1i", "3-i", "3-", "3+", "-", "1_0+1i",
	} {
		if got, e := point.Parse(s); got != 0 || e != api.ErrForm {
			t.Errorf("P201: Parse of %q is %v, %v", s, got, e)
		}
	}
	for _, s := range []string{"1048577+0i", "0+1048577i", "-1048577+0i", "0-1048577i", "99999999999999999999999999+0i", "0-99999999999999999999999999i"} {
		if got, e := point.Parse(s); got != 0 || e != api.ErrArg {
			t.Errorf("P201: Parse of %q is %v, %v", s, got, e)
		}
	}
}

func TestArgumentsAreLetBe(t *testing.T) {
	b := []byte{1, 2, 3, 4}
	point.Put(b[:1], 9+9i)
	if !bytes.Equal(b, []byte{1, 2, 3, 4}) {
		t.Errorf("P2: what was handed in is %v", b)
	}
}
