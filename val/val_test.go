package val_test

import (
	"math"
	"strings"
	"testing"

	"noria/api"
	"noria/val"
)

func number(n int64) val.Val     { return val.Val{Kind: val.Int, N: n} }
func text(s string) val.Val      { return val.Val{Kind: val.Bytes, S: s} }
func spot(c complex128) val.Val  { return val.Val{Kind: val.Point, C: c} }
func long(n int) string          { return strings.Repeat("x", n) }
func everyParts(f float64) []any { return []any{complex(f, 0), complex(0, f)} }

func TestCheck(t *testing.T) {
	below0 := math.Copysign(0, -1)
	for _, v := range []val.Val{
		{}, number(0), number(math.MinInt64), number(math.MaxInt64), text(""), text("\x00\xff"), text(long(255)),
		spot(0), spot(-api.MaxPart + api.MaxPart*1i), spot(complex(below0, below0)), {Kind: val.Int, N: 1, C: complex(below0, 0)},
	} {
		if e := val.Check(v); e != api.OK {
			t.Errorf("P301: Check of %v is %v", v, e)
		}
	}
	for i, c := range []struct {
		v    val.Val
		want api.Errno
	}{
		{val.Val{Kind: -1}, api.ErrKind}, {val.Val{Kind: 4}, api.ErrKind}, {val.Val{Kind: 4, N: 1, S: long(256)}, api.ErrKind},
		{val.Val{N: 1}, api.ErrArg}, {val.Val{S: "a"}, api.ErrArg}, {val.Val{C: 1}, api.ErrArg}, {val.Val{S: long(256)}, api.ErrArg},
		{val.Val{Kind: val.Int, S: "a"}, api.ErrArg}, {val.Val{Kind: val.Int, C: 1i}, api.ErrArg},
		{val.Val{Kind: val.Int, C: complex(math.NaN(), 0)}, api.ErrArg}, {val.Val{Kind: val.Int, S: long(256)}, api.ErrArg},
		{val.Val{Kind: val.Bytes, N: 1, S: long(256)}, api.ErrArg}, {val.Val{Kind: val.Bytes, C: 1}, api.ErrArg},
		{val.Val{Kind: val.Point, N: 1}, api.ErrArg}, {val.Val{Kind: val.Point, S: "a"}, api.ErrArg},
		{spot(0.5), api.ErrArg}, {spot(api.MaxPart + 1), api.ErrArg}, {text(long(256)), api.ErrLong},
	} {
		if e := val.Check(c.v); e != c.want {
			t.Errorf("P301: Check %d is %v, want %v", i, e, c.want)
		}
	}
	for _, f := range []float64{math.NaN(), math.Inf(1), math.Inf(-1)} {
		for _, c := range everyParts(f) {
			if e := val.Check(spot(c.(complex128))); e != api.ErrArg {
				t.Errorf("P301: Check of %v is %v", c, e)
			}
		}
	}
}

func TestFits(t *testing.T) {
	for _, v := range []val.Val{{}, number(1), text("a"), spot(1)} {
		for kind := val.Int; kind <= val.Point; kind++ {
			if got, want := val.Fits(v, kind), v.Kind == val.Null || v.Kind == kind; got != want {
				t.Errorf("P301: Fits of %v in %d is %v", v, kind, got)
			}
		}
	}
	if !val.Fits(val.Val{}, val.Null) || val.Fits(number(1), val.Null) {
		t.Error("P301: Fits of Null")
	}
}

func TestCompare(t *testing.T) {
	rising := []val.Val{
		{}, number(math.MinInt64), number(-1), number(0), number(2), number(10), number(math.MaxInt64),
		text(""), text("\x00"), text("B"), text("a"), text("aa"), text("b"), text("\xff"),
		spot(-2 + 9i), spot(-1 - 1i), spot(-1 + 1i), spot(0), spot(1i), spot(1 - 9i),
	}
	for i, a := range rising {
		for k, b := range rising {
			want := 0
			if i < k {
				want = -1
			} else if i > k {
				want = 1
			}
			if got := val.Compare(a, b); got != want {
				t.Errorf("P301: Compare(%v, %v) is %d", a, b, got)
			}
			if val.Same(a, b) != (i == k) {
				t.Errorf("P301: Same(%v, %v) is not %v", a, b, i == k)
			}
		}
	}
	if below0 := math.Copysign(0, -1); !val.Same(spot(0), spot(complex(below0, below0))) {
		t.Error("P301: a zero below 0 is not the Same as 0")
	}
}

func TestText(t *testing.T) {
	for s, v := range map[string]val.Val{
		"-": {}, "0": number(0), "-1": number(-1), "9223372036854775807": number(math.MaxInt64), "-9223372036854775808": number(math.MinInt64),
		`"`: text(""), `"6162`: text("ab"), `"00ff`: text("\x00\xff"), `"` + strings.Repeat("78", 255): text(long(255)),
		"0+0i": spot(0), "-3+4i": spot(-3 + 4i),
	} {
		if got := val.Text(v); got != s {
			t.Errorf("P301: Text of %v is %q", v, got)
		}
		if got, e := val.Parse(s); got != v || e != api.OK {
			t.Errorf("P301: Parse of %q is %v, %v", s, got, e)
		}
	}
	for s, want := range map[string]api.Errno{
		"": api.ErrForm, "--": api.ErrForm, "-0": api.ErrForm, "+1": api.ErrForm, "007": api.ErrForm, "00": api.ErrForm, "1a": api.ErrForm,
		" 1": api.ErrForm, "1 ": api.ErrForm, "1_0": api.ErrForm, "0x1": api.ErrForm, "1.0": api.ErrForm, "-01": api.ErrForm,
		`"6`: api.ErrForm, `"6A`: api.ErrForm, `"61"`: api.ErrForm, `"zz`: api.ErrForm, `61`: api.OK, `"6 `: api.ErrForm,
		`"` + strings.Repeat("78", 256): api.ErrLong, `"` + strings.Repeat("78", 256) + "7": api.ErrForm, `"` + strings.Repeat("78", 256) + "7A": api.ErrForm,
		"9223372036854775808": api.ErrArg, "-9223372036854775809": api.ErrArg, "99999999999999999999999": api.ErrArg, "99999999999999999999999x": api.ErrForm,
		"3+4": api.ErrForm, "i": api.ErrForm, "3-0i": api.ErrForm, "1048577+0i": api.ErrArg, "0-1048577i": api.ErrArg,
	} {
		if got, e := val.Parse(s); e != want || e != api.OK && got != (val.Val{}) {
			t.Errorf("P301: Parse of %q is %v, %v; want %v", s, got, e, want)
		}
	}
}
