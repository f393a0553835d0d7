package pub_test

import (
	"bytes"
	"math"
	"strings"
	"testing"

	"noria/api"
	"noria/dev"
	"noria/ext"
	"noria/foot"
	"noria/group"
	"noria/page"
	"noria/pub"
	"noria/schema"
	"noria/super"
	"noria/val"
)

func number(n int64) val.Val { return val.Val{Kind: val.Int, N: n} }
func text(s string) val.Val  { return val.Val{Kind: val.Bytes, S: s} }

func two() schema.Schema {
	return schema.Schema{{Name: "id", Kind: val.Int}, {Name: "word", Kind: val.Bytes}}
}

func rows(n int) [][]val.Val {
	var out [][]val.Val
	for i := range n {
		out = append(out, []val.Val{number(int64(i)), text(strings.Repeat("w", i))})
	}
	return out
}

func formatted(t *testing.T, blocks int) (*dev.Device, super.Super, foot.Foot) {
	t.Helper()
	d, _ := dev.New(blocks)
	s, f, e := pub.Format(d, two())
	if e != api.OK {
		t.Fatalf("P1801: Format is %v", e)
	}
	return d, s, f
}

func begun(t *testing.T, d *dev.Device, s super.Super, f foot.Foot, n int) *pub.Pub {
	t.Helper()
	p, e := pub.New(d, s, f, rows(n))
	if e != api.OK {
		t.Fatalf("P1801: New is %v", e)
	}
	return p
}

func TestFormat(t *testing.T) {
	d, s, f := formatted(t, 4)
	if s != (super.Super{Epoch: 1, Foot: ext.Ext{At: 2, N: 1}}) || !foot.Same(f, foot.Foot{Epoch: 1, Schema: two()}) || d.Waits() != 0 {
		t.Errorf("P1801: Format is %v, %v; %d wait", s, f, d.Waits())
	}
	if gotS, gotF, e := super.Find(d); gotS != s || !foot.Same(gotF, f) || e != api.OK {
		t.Errorf("P1801: Find is %v, %v, %v", gotS, gotF, e)
	}
	d, _ = dev.New(4)
	for i, c := range []struct {
		s    schema.Schema
		want api.Errno
	}{{nil, api.ErrLong}, {schema.Schema{{Name: "A", Kind: 1}}, api.ErrName}, {append(two(), two()...), api.ErrTwice}, {schema.Schema{{Name: "a"}}, api.ErrKind}} {
		s, f, e := pub.Format(d, c.s)
		if e != c.want || s != (super.Super{}) || !foot.Same(f, foot.Foot{}) || !bytes.Equal(d.Bytes(), make([]byte, 256)) {
			t.Errorf("P1801: %d: Format is %v, %v, %v", i, s, f, e)
		}
	}
	var widest schema.Schema
	for i := range 8 {
		widest = append(widest, schema.Col{Name: strings.Repeat("a", 7) + string(rune('a'+i)), Kind: 3})
	}
	if s, _, e := pub.Format(d, widest); s.Foot.N != 2 || e != api.OK {
		t.Errorf("P1801: Format of the widest is %v, %v", s, e)
	}
}

func TestStepsInOrder(t *testing.T) {
	d, s, f := formatted(t, 40)
	p := begun(t, d, s, f, 20)
	newS, newF := p.Result()
	if newS.Epoch != 2 || newF.Epoch != 2 || len(newF.Groups) != 1 || newF.Groups[0].Rows != 20 || !schema.Same(newF.Schema, two()) {
		t.Errorf("P1801: Result is %v, %v", newS, newF)
	}
	g, pages, left, _ := group.Make(two(), rows(20), ext.Free(40, []ext.Ext{s.Foot}))
	if !group.Same(newF.Groups[0], g) || newS.Foot.At != left[0].At {
		t.Errorf("P1801: Result is %v, %v", newS, newF)
	}
	told, _ := foot.Put(newF)
	waits := []int{page.Size(len(pages[0])) + page.Size(len(pages[1])), 0, page.Size(len(told)), 0, 1, 0}
	for i, want := range waits {
		if p.State() != i {
			t.Errorf("P1801: State is %d, want %d", p.State(), i)
		}
		done, e := p.Step()
		if done != (i == 5) || e != api.OK || d.Waits() != want {
			t.Errorf("P1801: Step %d is %v, %v; %d wait, want %d", i+1, done, e, d.Waits(), want)
		}
		if i == 0 {
			for k, c := range g.Chunks {
				if b, e := page.Read(d, c.Ext.At, c.Ext.N); !bytes.Equal(b, pages[k]) || e != api.OK {
					t.Errorf("P1801: page %d is %v, %v", k, b, e)
				}
			}
		}
		if i == 2 {
			if b, e := page.Read(d, newS.Foot.At, newS.Foot.N); !bytes.Equal(b, told) || e != api.OK {
				t.Errorf("P1801: the Foot is %v, %v", b, e)
			}
		}
	}
	before := d.Bytes()
	if done, e := p.Step(); done || e != api.ErrState || p.State() != 6 || !bytes.Equal(before, d.Bytes()) {
		t.Errorf("P1801: Step behind the last is %v, %v", done, e)
	}
	if gotS, gotF, e := super.Find(d); gotS != newS || !foot.Same(gotF, newF) || e != api.OK {
		t.Errorf("P1801: Find is %v, %v, %v", gotS, gotF, e)
	}
	newF.Groups[0].Rows = 99
	if _, again := p.Result(); again.Groups[0].Rows != 20 {
		t.Error("P2: Result shares memory")
	}
}

func TestNewRefuses(t *testing.T) {
	d, s, f := formatted(t, 40)
	full := f
	full.Groups = make([]group.Group, 64)
	last := f
	last.Epoch = math.MaxUint64
	wide := foot.Foot{Epoch: 1, Schema: schema.Schema{{Name: "word", Kind: val.Bytes}}}
	var long [][]val.Val
	for i := range 40 {
		long = append(long, []val.Val{text(strings.Repeat("x", 254) + string(rune('A'+i)))})
	}
	before := d.Bytes()
	for i, c := range []struct {
		f    foot.Foot
		rows [][]val.Val
		want api.Errno
	}{
		{full, nil, api.ErrMany}, {f, nil, api.ErrLong}, {f, rows(65), api.ErrLong}, {f, [][]val.Val{{number(1)}}, api.ErrLong}, {f, [][]val.Val{{number(1), number(1)}}, api.ErrKind}, {f, [][]val.Val{{{N: 1}, {}}}, api.ErrArg}, {wide, long, api.ErrLong},
		{wide, long[:30], api.ErrDevice}, {last, rows(1), api.ErrArg},
	} {
		if p, e := pub.New(d, s, c.f, c.rows); p != nil || e != c.want {
			t.Errorf("P1801: %d: New is %v, want %v", i, e, c.want)
		}
	}
	if !bytes.Equal(before, d.Bytes()) || d.Waits() != 0 {
		t.Error("P5: what failed has changed the device")
	}
}

func TestRoom(t *testing.T) {
	// A row takes two pages of a block each, the next Foot a third one; the Foot of now has another.
	for blocks, want := range map[int]api.Errno{4: api.ErrDevice, 5: api.ErrDevice, 6: api.OK} {
		d, s, f := formatted(t, blocks)
		if _, e := pub.New(d, s, f, rows(1)); e != want {
			t.Errorf("P1801: New on %d blocks is %v", blocks, e)
		}
	}
	d, s, f := formatted(t, 9)
	for i := 0; ; i++ {
		p, e := pub.New(d, s, f, rows(1))
		if e != api.OK {
			if i != 2 || e != api.ErrDevice {
				t.Errorf("P1801: group %d: %v", i, e)
			}
			break
		}
		_, next := p.Result()
		if e := foot.Check(next, 9); e != api.OK {
			t.Errorf("P1801: the Foot of group %d: %v", i, e)
		}
		for range 6 {
			p.Step()
		}
		s, f = p.Result()
	}
}

func TestAFootThatIsTooLong(t *testing.T) {
	long := schema.Schema{{Name: "word", Kind: val.Bytes}}
	d, _ := dev.New(1024)
	s, f, _ := pub.Format(d, long)
	for i := range 20 {
		p, e := pub.New(d, s, f, [][]val.Val{{text(strings.Repeat("x", 255))}})
		if e == api.ErrLong && i == 15 {
			return
		}
		if e != api.OK {
			t.Fatalf("P1801: group %d: %v", i, e)
		}
		for range 6 {
			p.Step()
		}
		s, f = p.Result()
	}
	t.Error("P1801: no Foot was too long")
}

func TestCrashAtEachStep(t *testing.T) {
	d, s, f := formatted(t, 60)
	for range 3 {
		p := begun(t, d, s, f, 7)
		newS, newF := p.Result()
		for state := 0; state <= 6; state++ {
			if state > 0 {
				p.Step()
			}
			elder, younger := 0, 0
			for mask := range 1 << d.Waits() {
				keep := make([]bool, d.Waits())
				for i := range keep {
					keep[i] = mask>>i&1 == 1
				}
				twin := d.Twin()
				twin.Crash(keep)
				gotS, gotF, e := super.Find(twin)
				switch {
				case e == api.OK && gotS == s && foot.Same(gotF, f):
					elder++
				case e == api.OK && gotS == newS && foot.Same(gotF, newF):
					younger++
				default:
					t.Fatalf("P1802: behind %d Steps and %v: %v, %v", state, keep, gotS, e)
				}
			}
			if state <= 4 && younger > 0 || state == 6 && elder > 0 || state == 5 && (elder == 0 || younger == 0) {
				t.Errorf("P1802: behind %d Steps: %d elder, %d younger", state, elder, younger)
			}
		}
		s, f = newS, newF
	}
}

func TestTwin(t *testing.T) {
	d, s, f := formatted(t, 40)
	p := begun(t, d, s, f, 3)
	p.Step()
	other := d.Twin()
	q := p.Twin(other)
	if q.State() != 1 || other.Waits() == 0 {
		t.Errorf("P1801: the Twin is in State %d", q.State())
	}
	for range 5 {
		q.Step()
	}
	if p.State() != 1 || q.State() != 6 || d.Waits() == 0 || other.Waits() != 0 {
		t.Errorf("P1801: States %d, %d; %d, %d wait", p.State(), q.State(), d.Waits(), other.Waits())
	}
	if got, _, e := super.Find(other); got.Epoch != 2 || e != api.OK {
		t.Errorf("P1801: Find on the Twin's is %v, %v", got, e)
	}
	if got, _, e := super.Find(d); got.Epoch != 1 || e != api.OK {
		t.Errorf("P1801: Find is %v, %v", got, e)
	}
	small, _ := dev.New(4)
	r := p.Twin(small)
	if done, e := r.Step(); done || e != api.ErrDevice || r.State() != 1 || small.Waits() != 0 {
		t.Errorf("P5: Step on few blocks is %v, %v", done, e)
	}
}
