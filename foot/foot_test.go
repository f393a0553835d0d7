package foot_test

import (
	"bytes"
	"math"
	"slices"
	"testing"

	"noria/api"
	"noria/ext"
	"noria/foot"
	"noria/group"
	"noria/num"
	"noria/schema"
	"noria/stat"
	"noria/val"
)

func two() schema.Schema {
	return schema.Schema{{Name: "id", Kind: val.Int}, {Name: "word", Kind: val.Bytes}}
}

// nulls answers a group of n rows of Nulls whose Chunks stand from at on, a block each.
func nulls(n, at int) group.Group {
	g := group.Group{Rows: n}
	for i, c := range two() {
		g.Chunks = append(g.Chunks, group.Chunk{Ext: ext.Ext{At: at + i, N: 1}, Stat: stat.Stat{Kind: c.Kind, Rows: n, Nulls: n}})
	}
	return g
}

func good() foot.Foot {
	return foot.Foot{Epoch: 300, Schema: two(), Groups: []group.Group{nulls(3, 4), nulls(64, 2), nulls(1, 8)}}
}

func many(n int) foot.Foot {
	f := foot.Foot{Epoch: 1, Schema: two()}
	for i := range n {
		f.Groups = append(f.Groups, nulls(1, 2+2*i))
	}
	return f
}

func TestCheck(t *testing.T) {
	for i, c := range []struct {
		change func(f *foot.Foot)
		want   api.Errno
	}{
		{func(f *foot.Foot) {}, api.OK}, {func(f *foot.Foot) { f.Groups = nil }, api.OK}, {func(f *foot.Foot) { f.Epoch, f.Schema = 0, nil }, api.ErrArg}, {func(f *foot.Foot) { f.Schema[1].Name = "id" }, api.ErrTwice}, {func(f *foot.Foot) { f.Schema, f.Groups = nil, make([]group.Group, 65) }, api.ErrLong},
		{func(f *foot.Foot) { f.Schema[0].Name, f.Groups = "A", make([]group.Group, 65) }, api.ErrName}, {func(f *foot.Foot) { *f = many(64) }, api.OK}, {func(f *foot.Foot) { *f = many(65) }, api.ErrLong}, {func(f *foot.Foot) { f.Groups = make([]group.Group, 65) }, api.ErrLong},
		{func(f *foot.Foot) { f.Groups[1].Rows = 0 }, api.ErrArg}, {func(f *foot.Foot) { f.Groups[1].Chunks[1].Stat.Kind = 1 }, api.ErrKind}, {func(f *foot.Foot) { f.Groups[2].Chunks[1].Ext.At = 5 }, api.ErrTwice}, {func(f *foot.Foot) { f.Groups[2].Chunks[1].Ext.At = 8 }, api.ErrTwice},
		{func(f *foot.Foot) { f.Groups[1], f.Groups[2].Rows = f.Groups[0], 0 }, api.ErrTwice}, {func(f *foot.Foot) { f.Groups[2], f.Groups[1].Rows = f.Groups[0], 0 }, api.ErrArg}, {func(f *foot.Foot) { f.Groups[1].Chunks[0].Ext.At = 300 }, api.ErrArg},
		{func(f *foot.Foot) { f.Groups[0].Chunks[0].Ext = ext.Ext{At: 1, N: 1} }, api.ErrArg}, {func(f *foot.Foot) { f.Groups[0].Chunks = nil }, api.ErrLong},
	} {
		f := good()
		c.change(&f)
		if e := foot.Check(f, 200); e != c.want {
			t.Errorf("P1601: %d: Check is %v, want %v", i, e, c.want)
		}
	}
	if e := foot.Check(good(), 9); e != api.ErrArg {
		t.Errorf("P1601: Check among few blocks is %v", e)
	}
}

func TestPutAndGet(t *testing.T) {
	f := good()
	want, _ := schema.Put(num.Put(nil, 300), two())
	want = append(want, 3)
	for _, g := range f.Groups {
		want, _ = group.Put(want, g)
	}
	b, e := foot.Put(f)
	if !bytes.Equal(b, want) || e != api.OK {
		t.Errorf("P1601: Put is %v, %v", b, e)
	}
	if got, e := foot.Get(b); !foot.Same(got, f) || e != api.OK {
		t.Errorf("P1601: Get is %v, %v", got, e)
	}
	if got, e := foot.Get(append(b, 0)); !foot.Same(got, foot.Foot{}) || e != api.ErrLong {
		t.Errorf("P1601: Get of more is %v, %v", got, e)
	}
	for cut := range len(b) {
		if got, e := foot.Get(b[:cut]); !foot.Same(got, foot.Foot{}) || e != api.ErrShort {
			t.Errorf("P1601: Get of %d bytes is %v, %v", cut, got, e)
		}
	}
	for _, f := range []foot.Foot{many(0), many(64), {Epoch: math.MaxUint64, Schema: two()}} {
		b, e := foot.Put(f)
		if got, back := foot.Get(b); e != api.OK || back != api.OK || !foot.Same(got, f) {
			t.Errorf("P1601: %d groups come back as %d: %v, %v", len(f.Groups), len(got.Groups), e, back)
		}
	}
}

// wide answers a foot whose Stats take more than a page, or, of a short word, less.
func wide(word int) foot.Foot {
	f := many(64)
	long := val.Val{Kind: val.Bytes, S: string(bytes.Repeat([]byte{'a'}, word))}
	for _, g := range f.Groups {
		g.Chunks[1].Stat = stat.Stat{Kind: val.Bytes, Rows: 1, Low: long, High: long}
	}
	return f
}

func TestTheLongestFoot(t *testing.T) {
	f := wide(50)
	b, _ := foot.Put(f)
	for i := 0; len(b) < api.MaxPage; i = (i + 1) % 64 {
		f.Groups[i].Chunks[1].Stat.High.S += "a"
		longer, e := foot.Put(f)
		if e != api.OK || len(longer) != len(b)+1 {
			t.Fatalf("P1601: behind %d bytes Put is %d bytes, %v", len(b), len(longer), e)
		}
		b = longer
	}
	if got, e := foot.Get(b); !foot.Same(got, f) || e != api.OK {
		t.Errorf("P1601: Get of the longest is %v", e)
	}
	f.Groups[9].Chunks[1].Stat.High.S += "a"
	if b, e := foot.Put(f); len(b) != 0 || e != api.ErrLong {
		t.Errorf("P1601: Put of one byte more is %d bytes, %v", len(b), e)
	}
}

func TestPutRefuses(t *testing.T) {
	for i, c := range []struct {
		f    foot.Foot
		want api.Errno
	}{
		{foot.Foot{}, api.ErrArg}, {foot.Foot{Epoch: 1}, api.ErrLong}, {foot.Foot{Epoch: 1, Schema: schema.Schema{{Name: "a"}}, Groups: make([]group.Group, 65)}, api.ErrKind}, {many(65), api.ErrLong},
		{foot.Foot{Epoch: 1, Schema: two(), Groups: []group.Group{{}}}, api.ErrArg}, {foot.Foot{Epoch: 1, Schema: two(), Groups: make([]group.Group, 65)}, api.ErrLong}, {wide(255), api.ErrLong}, {wide(50), api.OK},
		{foot.Foot{Epoch: 1, Schema: two(), Groups: []group.Group{{Rows: 1, Chunks: make([]group.Chunk, 1)}}}, api.ErrKind},
	} {
		if b, e := foot.Put(c.f); e != c.want || e != api.OK && len(b) != 0 {
			t.Errorf("P1601: %d: Put is %d bytes, %v; want %v", i, len(b), e, c.want)
		}
	}
}

func TestGetRefuses(t *testing.T) {
	head, _ := schema.Put([]byte{1}, two())
	with := func(b ...byte) []byte { return append(slices.Clone(head), b...) }
	for i, c := range []struct {
		b    []byte
		want api.Errno
	}{
		{nil, api.ErrShort}, {[]byte{0}, api.ErrArg}, {[]byte{128, 0}, api.ErrForm}, {[]byte{1, 0}, api.ErrLong}, {[]byte{1, 9}, api.ErrLong}, {[]byte{1, 1, 1, 'a', 9}, api.ErrKind}, {[]byte{1, 1, 1, 'A', 1}, api.ErrName}, {head, api.ErrShort}, {with(128, 0), api.ErrForm},
		{with(65), api.ErrLong}, {with(255, 255, 255, 255, 255, 255, 255, 255, 255, 1), api.ErrLong}, {with(1), api.ErrShort}, {with(1, 0), api.ErrArg}, {with(1, 1, 9), api.ErrLong}, {with(0, 0), api.ErrLong}, {with(1, 1, 0, 1), api.ErrLong}, {with(0), api.OK}, {with(1, 1, 0), api.OK},
	} {
		if f, e := foot.Get(c.b); e != c.want || e != api.OK && !foot.Same(f, foot.Foot{}) {
			t.Errorf("P1601: %d: Get is %v, %v; want %v", i, f, e, c.want)
		}
	}
}

func TestUsedRowsSame(t *testing.T) {
	if got := foot.Used(good()); !slices.Equal(got, []ext.Ext{{At: 4, N: 1}, {At: 5, N: 1}, {At: 2, N: 1}, {At: 3, N: 1}, {At: 8, N: 1}, {At: 9, N: 1}}) {
		t.Errorf("P1601: Used is %v", got)
	}
	if got := foot.Rows(good()); got != 68 {
		t.Errorf("P1601: Rows is %d", got)
	}
	if len(foot.Used(foot.Foot{})) != 0 || foot.Rows(foot.Foot{}) != 0 || !foot.Same(foot.Foot{}, foot.Foot{Groups: []group.Group{}, Schema: schema.Schema{}}) {
		t.Error("P1601: of nothing")
	}
	for i, change := range []func(f *foot.Foot){
		func(f *foot.Foot) { f.Epoch++ }, func(f *foot.Foot) { f.Schema = f.Schema[:1] }, func(f *foot.Foot) { f.Schema[0].Kind++ }, func(f *foot.Foot) { f.Groups = f.Groups[:2] }, func(f *foot.Foot) { f.Groups[2].Rows++ }, func(f *foot.Foot) { f.Groups[2].Chunks[1].Ext.N++ },
	} {
		f := good()
		change(&f)
		if foot.Same(f, good()) || foot.Same(good(), f) {
			t.Errorf("P1601: %d is the Same", i)
		}
	}
	if !foot.Same(good(), good()) {
		t.Error("P1601: not the Same")
	}
}
