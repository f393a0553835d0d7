package pool_test

import (
	"math"
	"slices"
	"testing"

	"noria/api"
	"noria/dev"
	"noria/ext"
	"noria/page"
	"noria/pool"
)

// filled answers a device whose blocks from 2 on have a page each that tells the block's number.
func filled(t *testing.T) *dev.Device {
	t.Helper()
	d, _ := dev.New(20)
	for at := 2; at < 20; at++ {
		if e := page.Write(d, at, []byte{byte(at)}); e != api.OK {
			t.Fatal(e)
		}
	}
	return d
}

func made(t *testing.T, frames, k int) *pool.Pool {
	t.Helper()
	p, e := pool.New(frames, k)
	if e != api.OK {
		t.Fatalf("P1901: New(%d, %d) is %v", frames, k, e)
	}
	return p
}

// pin pins the page at at, and answers whether it was held.
func pin(t *testing.T, p *pool.Pool, d *dev.Device, at int) bool {
	t.Helper()
	b, held, e := p.Pin(d, ext.Ext{At: at, N: 1})
	if e != api.OK || len(b) != 1 || int(b[0]) != at {
		t.Fatalf("P1901: Pin of %d is %v, %v", at, b, e)
	}
	return held
}

// touch pins and unpins, one page behind another.
func touch(t *testing.T, p *pool.Pool, d *dev.Device, all ...int) {
	t.Helper()
	for _, at := range all {
		pin(t, p, d, at)
		if e := p.Unpin(at); e != api.OK {
			t.Fatalf("P1901: Unpin of %d is %v", at, e)
		}
	}
}

func TestNew(t *testing.T) {
	for _, c := range []struct {
		frames, k int
		want      api.Errno
	}{{1, 1, api.OK}, {256, 8, api.OK}, {0, 1, api.ErrArg}, {257, 1, api.ErrArg}, {1, 0, api.ErrArg}, {1, 9, api.ErrArg}, {-1, -1, api.ErrArg}, {math.MaxInt, 1, api.ErrArg}} {
		p, e := pool.New(c.frames, c.k)
		if e != c.want || (p == nil) != (e != api.OK) {
			t.Errorf("P1901: New(%d, %d) is %v", c.frames, c.k, e)
		}
	}
}

func TestPinsAreCounted(t *testing.T) {
	d, p := filled(t), made(t, 3, 2)
	if pin(t, p, d, 5) || !pin(t, p, d, 5) || pin(t, p, d, 3) {
		t.Error("P1901: what was held")
	}
	if p.Pins(5) != 2 || p.Pins(3) != 1 || p.Pins(4) != 0 || p.Pins(-1) != 0 || p.Pinned() != 2 || !slices.Equal(p.Held(), []int{3, 5}) {
		t.Errorf("P1901: %d, %d, %d; %v", p.Pins(5), p.Pins(3), p.Pinned(), p.Held())
	}
	for i, want := range []api.Errno{api.OK, api.OK, api.ErrState} {
		if e := p.Unpin(5); e != want {
			t.Errorf("P1901: Unpin %d is %v", i, e)
		}
	}
	if p.Pins(5) != 0 || p.Pinned() != 1 || !slices.Equal(p.Held(), []int{3, 5}) || !pin(t, p, d, 5) {
		t.Error("P1901: what has no Pin is held still")
	}
	for _, at := range []int{4, -1, math.MaxInt} {
		if e := p.Unpin(at); e != api.ErrState {
			t.Errorf("P1901: Unpin of %d is %v", at, e)
		}
	}
}

func TestWhatIsHeldIsNotRead(t *testing.T) {
	d, p := filled(t), made(t, 2, 1)
	b, _, _ := p.Pin(d, ext.Ext{At: 5, N: 1})
	b[0] = 99
	d.Write(5, make([]byte, 64))
	if !pin(t, p, d, 5) {
		t.Error("P1901: it was held")
	}
	if b, held, e := p.Pin(d, ext.Ext{At: 5, N: 7}); len(b) != 1 || !held || e != api.OK {
		t.Errorf("P1901: Pin by the first block is %v, %v, %v", b, held, e)
	}
}

func TestWhatFailsIsNoTime(t *testing.T) {
	d := filled(t)
	d.Write(9, make([]byte, 64))
	for _, c := range []struct {
		e    ext.Ext
		want api.Errno
	}{{ext.Ext{At: 9, N: 1}, api.ErrPage}, {ext.Ext{At: 20, N: 1}, api.ErrDevice}, {ext.Ext{At: 4, N: 0}, api.ErrDevice}, {ext.Ext{At: -1, N: 1}, api.ErrDevice}, {ext.Ext{At: 4, N: 2}, api.ErrPage}} {
		p := made(t, 1, 1)
		touch(t, p, d, 5)
		if b, held, e := p.Pin(d, c.e); len(b) != 0 || held || e != c.want {
			t.Errorf("P1901: Pin of %v is %v, %v, %v", c.e, b, held, e)
		}
		if !slices.Equal(p.Held(), []int{5}) || p.Pinned() != 0 {
			t.Errorf("P1901: behind what failed %v is held", p.Held())
		}
		pin(t, p, d, 5)
		if b, held, e := p.Pin(d, c.e); len(b) != 0 || held || e != api.ErrPool {
			t.Errorf("P1901: Pin of %v without a frame is %v, %v, %v", c.e, b, held, e)
		}
		if !pin(t, p, d, 5) {
			t.Error("P1901: what is held needs no frame")
		}
	}
}

// slow is a Pool told another way: it keeps all times while a page is held.
type slow struct {
	frames, k, now int
	times          map[int][]int
	pins           map[int]int
}

func (s *slow) key(at int) [2]int {
	l := s.times[at]
	kth := 0
	if len(l) >= s.k {
		kth = l[len(l)-s.k]
	}
	return [2]int{kth, l[len(l)-1]}
}

func (s *slow) pin(at int) bool {
	if _, held := s.times[at]; !held && len(s.times) == s.frames {
		goes := -1
		for other := range s.times {
			if s.pins[other] > 0 {
				continue
			}
			if goes < 0 || slices.Compare(s.slice(other), s.slice(goes)) < 0 {
				goes = other
			}
		}
		if goes < 0 {
			return false
		}
		delete(s.times, goes)
	}
	s.now++
	s.times[at] = append(s.times[at], s.now)
	s.pins[at]++
	return true
}

func (s *slow) slice(at int) []int {
	k := s.key(at)
	return k[:]
}

func (s *slow) held() []int {
	var out []int
	for at := range s.times {
		out = append(out, at)
	}
	slices.Sort(out)
	return out
}

func TestWhoGoes(t *testing.T) {
	d := filled(t)
	seed := uint32(7)
	next := func(n int) int {
		seed = seed*1664525 + 1013904223
		return int(seed>>16) % n
	}
	for k := 1; k <= 8; k++ {
		for frames := 1; frames <= 6; frames++ {
			p, s := made(t, frames, k), &slow{frames: frames, k: k, times: map[int][]int{}, pins: map[int]int{}}
			for range 400 {
				at := 2 + next(9)
				if next(3) == 0 {
					if e := p.Unpin(at); (e == api.OK) != (s.pins[at] > 0) {
						t.Fatalf("P1901: Unpin of %d is %v", at, e)
					}
					s.pins[at] = max(s.pins[at]-1, 0)
				} else {
					_, _, e := p.Pin(d, ext.Ext{At: at, N: 1})
					if ok := s.pin(at); ok != (e == api.OK) || !ok && e != api.ErrPool {
						t.Fatalf("P1901: Pin of %d is %v", at, e)
					}
					if next(2) == 0 && e == api.OK {
						p.Unpin(at)
						s.pins[at]--
					}
				}
				if !slices.Equal(p.Held(), s.held()) {
					t.Fatalf("P1901: of %d frames and k %d %v is held, want %v", frames, k, p.Held(), s.held())
				}
				if next(50) == 0 {
					p = p.Twin()
				}
			}
		}
	}
}

func TestWhoGoesBySecondLastTime(t *testing.T) {
	d, p := filled(t), made(t, 3, 2)
	touch(t, p, d, 5, 5, 4, 3, 3)
	touch(t, p, d, 6) // 4 was asked once: its second last time is 0
	if got := p.Held(); !slices.Equal(got, []int{3, 5, 6}) {
		t.Errorf("P1901: %v is held", got)
	}
	touch(t, p, d, 6, 5) // 5 was asked at 2 and 8, 3 at 4 and 5, 6 at 6 and 7
	touch(t, p, d, 4)
	if got := p.Held(); !slices.Equal(got, []int{3, 4, 6}) {
		t.Errorf("P1901: %v is held", got)
	}
}

func TestTwin(t *testing.T) {
	d, p := filled(t), made(t, 2, 2)
	touch(t, p, d, 5, 5, 4)
	pin(t, p, d, 5)
	twin := p.Twin()
	if !slices.Equal(twin.Held(), []int{4, 5}) || twin.Pins(5) != 1 || twin.Pinned() != 1 {
		t.Errorf("P1901: the Twin holds %v", twin.Held())
	}
	twin.Unpin(5)
	touch(t, twin, d, 4, 4, 4, 7)
	if p.Pins(5) != 1 || !slices.Equal(p.Held(), []int{4, 5}) || !slices.Equal(twin.Held(), []int{4, 7}) {
		t.Errorf("P1901: %v, %v are held", p.Held(), twin.Held())
	}
	touch(t, p, d, 6)
	if !slices.Equal(p.Held(), []int{5, 6}) {
		t.Errorf("P1901: %v is held", p.Held())
	}
}
