package super_test

import (
	"bytes"
	"math"
	"testing"

	"noria/api"
	"noria/dev"
	"noria/ext"
	"noria/foot"
	"noria/group"
	"noria/num"
	"noria/page"
	"noria/schema"
	"noria/stat"
	"noria/super"
	"noria/val"
)

func TestPutAndGet(t *testing.T) {
	for _, s := range []super.Super{
		{Epoch: 1}, {Epoch: 300, Foot: ext.Ext{At: 2, N: 1}}, {Epoch: math.MaxUint64, Foot: ext.Ext{At: 1024, N: 1024}}, {Epoch: 2, Foot: ext.Ext{At: 0, N: 1000}},
	} {
		b, e := super.Put(s)
		want := append(num.Put(num.Put(num.Put(nil, s.Epoch), uint64(s.Foot.At)), uint64(s.Foot.N)), make([]byte, 60)...)[:60]
		if e != api.OK || len(b) != 64 || !bytes.Equal(b, append(num.Put4(nil, num.Sum(want)), want...)) {
			t.Errorf("P1701: Put of %v is %v, %v", s, b, e)
		}
		if got, e := super.Get(b); got != s || e != api.OK {
			t.Errorf("P1701: Get is %v, %v", got, e)
		}
		for i := range b {
			b[i] ^= 1
			if got, e := super.Get(b); got != (super.Super{}) || e != api.ErrPage {
				t.Errorf("P1701: Get with byte %d changed is %v, %v", i, got, e)
			}
			b[i] ^= 1
		}
		for _, other := range [][]byte{b[:63], append(b[:64:64], 0), append(b[:64:64], b...)} {
			if got, e := super.Get(other); got != (super.Super{}) || e != api.ErrPage {
				t.Errorf("P1701: Get of %d bytes is %v, %v", len(other), got, e)
			}
		}
	}
	for _, s := range []super.Super{
		{}, {Foot: ext.Ext{At: 2, N: 1}}, {Epoch: 1, Foot: ext.Ext{At: -1, N: 1}}, {Epoch: 1, Foot: ext.Ext{At: 1025, N: 1}}, {Epoch: 1, Foot: ext.Ext{At: 1, N: -1}}, {Epoch: 1, Foot: ext.Ext{At: 1, N: 1025}}, {Epoch: 1, Foot: ext.Ext{At: math.MinInt, N: math.MaxInt}},
	} {
		if b, e := super.Put(s); len(b) != 0 || e != api.ErrArg {
			t.Errorf("P1701: Put of %v is %v, %v", s, b, e)
		}
		d, _ := dev.New(4)
		if e := super.Write(d, s); e != api.ErrArg || d.Waits() != 0 {
			t.Errorf("P1701: Write of %v is %v", s, e)
		}
	}
}

func TestGetRefusesWhatPutDoesNotTell(t *testing.T) {
	for i, told := range [][]byte{nil, {0, 2, 1}, {1, 129, 8, 1}, {1, 2, 129, 8}, {128, 0, 2, 1}, {1, 130, 0, 1}, bytes.Repeat([]byte{255}, 60), {1, 2, 1, 5}} {
		rest := append(told, make([]byte, 60)...)[:60]
		if s, e := super.Get(append(num.Put4(nil, num.Sum(rest)), rest...)); s != (super.Super{}) || e != api.ErrPage {
			t.Errorf("P1701: %d: Get is %v, %v", i, s, e)
		}
	}
	for _, b := range [][]byte{nil, {1}, {1, 2, 3, 4, 128}, make([]byte, 64)} {
		if s, e := super.Get(b); s != (super.Super{}) || e != api.ErrPage {
			t.Errorf("P1701: Get of %v is %v, %v", b, s, e)
		}
	}
}

func TestSlotAndWrite(t *testing.T) {
	for epoch, want := range map[uint64]int{0: 0, 1: 1, 2: 0, 7: 1, math.MaxUint64: 1} {
		if got := super.Slot(epoch); got != want {
			t.Errorf("P1701: Slot(%d) is %d", epoch, got)
		}
	}
	d, _ := dev.New(4)
	for _, epoch := range []uint64{6, 9} {
		s := super.Super{Epoch: epoch, Foot: ext.Ext{At: 2, N: 2}}
		if e := super.Write(d, s); e != api.OK {
			t.Errorf("P1701: Write is %v", e)
		}
		want, _ := super.Put(s)
		if b, _ := d.Read(int(epoch % 2)); !bytes.Equal(b, want) {
			t.Errorf("P1701: Write of %v lays %v", s, b)
		}
	}
	if d.Waits() != 2 {
		t.Errorf("P1701: %d wait", d.Waits())
	}
}

// feet answers a foot of that epoch with a group whose Chunk stands at at, and no group, where at is 0.
func feet(epoch uint64, at int) foot.Foot {
	f := foot.Foot{Epoch: epoch, Schema: schema.Schema{{Name: "a", Kind: val.Int}}}
	if at > 0 {
		f.Groups = []group.Group{{Rows: 1, Chunks: []group.Chunk{{Ext: ext.Ext{At: at, N: 1}, Stat: stat.Stat{Kind: val.Int, Rows: 1, Nulls: 1}}}}}
	}
	return f
}

// lay writes f at at, and a Super of that epoch that tells of it.
func lay(t *testing.T, d *dev.Device, f foot.Foot, epoch uint64, at int) super.Super {
	t.Helper()
	b, e := foot.Put(f)
	if e != api.OK {
		t.Fatal(e)
	}
	s := super.Super{Epoch: epoch, Foot: ext.Ext{At: at, N: page.Size(len(b))}}
	if e := page.Write(d, at, b); e != api.OK {
		t.Fatal(e)
	}
	if e := super.Write(d, s); e != api.OK {
		t.Fatal(e)
	}
	return s
}

func TestFind(t *testing.T) {
	d, _ := dev.New(10)
	if s, f, e := super.Find(d); s != (super.Super{}) || !foot.Same(f, foot.Foot{}) || e != api.ErrFooter {
		t.Errorf("P1701: Find on an empty device is %v, %v, %v", s, f, e)
	}
	four := lay(t, d, feet(4, 5), 4, 3)
	check := func(what string, d *dev.Device, want super.Super, at int) {
		t.Helper()
		s, f, e := super.Find(d)
		if s != want || !foot.Same(f, feet(want.Epoch, at)) || e != api.OK {
			t.Errorf("P1701: %s: Find is %v, %v, %v", what, s, f, e)
		}
	}
	check("one", d, four, 5)
	three := d.Twin()
	lay(t, three, feet(3, 0), 3, 7)
	check("an elder one", three, four, 5)
	five := lay(t, d, feet(5, 6), 5, 7)
	check("a younger one", d, five, 6)
	for name, spoil := range map[string]func(d *dev.Device){
		"a torn super":         func(d *dev.Device) { d.Write(1, make([]byte, 64)) },
		"a torn foot":          func(d *dev.Device) { d.Write(7, make([]byte, 64)) },
		"a super in the other": func(d *dev.Device) { b, _ := super.Put(super.Super{Epoch: 6, Foot: five.Foot}); d.Write(1, b) },
		"a younger one in the other": func(d *dev.Device) {
			b, _ := d.Read(0)
			lay(t, d, feet(6, 6), 6, 7)
			six, _ := d.Read(0)
			d.Write(0, b)
			d.Write(1, six)
		},
		"a foot in the other's block": func(d *dev.Device) {
			b, _ := foot.Put(feet(4, 6))
			page.Write(d, 1, b)
			super.Write(d, super.Super{Epoch: 4, Foot: ext.Ext{At: 1, N: 1}})
			lay(t, d, feet(4, 5), 4, 3)
		},
		"a foot of another epoch": func(d *dev.Device) { lay(t, d, feet(7, 6), 5, 7) },
		"a foot that is none":     func(d *dev.Device) { page.Write(d, 7, []byte{5, 0}) },
		"a foot with more bytes":  func(d *dev.Device) { b, _ := foot.Put(feet(5, 6)); page.Write(d, 7, append(b, 0)) },
		"a chunk over the foot":   func(d *dev.Device) { lay(t, d, feet(5, 7), 5, 7) },
		"a chunk beyond the end":  func(d *dev.Device) { lay(t, d, feet(5, 10), 5, 7) },
		"a chunk in the front":    func(d *dev.Device) { lay(t, d, feet(5, 1), 5, 7) },
		"a foot in the front":     func(d *dev.Device) { super.Write(d, super.Super{Epoch: 5, Foot: ext.Ext{At: 1, N: 1}}) },
		"a foot beyond the end":   func(d *dev.Device) { super.Write(d, super.Super{Epoch: 5, Foot: ext.Ext{At: 9, N: 2}}) },
		"a foot of no blocks":     func(d *dev.Device) { super.Write(d, super.Super{Epoch: 5, Foot: ext.Ext{At: 7, N: 0}}) },
		"a foot of more blocks":   func(d *dev.Device) { super.Write(d, super.Super{Epoch: 5, Foot: ext.Ext{At: 7, N: 2}}) },
	} {
		other := d.Twin()
		spoil(other)
		check(name, other, four, 5)
		other.Write(0, make([]byte, 64))
		if s, f, e := super.Find(other); s != (super.Super{}) || !foot.Same(f, foot.Foot{}) || e != api.ErrFooter {
			t.Errorf("P1701: %s: Find of none is %v, %v, %v", name, s, f, e)
		}
	}
}
