package col

import (
	"noria/api"
	"noria/delta"
	"noria/dict"
	"noria/num"
	"noria/pack"
	"noria/point"
	"noria/rle"
	"noria/val"
)

// Get is Put's way back.
func Get(b []byte, kind int) ([]val.Val, api.Errno) {
	if !isKind(kind) {
		return nil, api.ErrKind
	}
	if len(b) == 0 {
		return nil, api.ErrShort
	}
	how := int(b[0])
	if !may(kind, how) {
		return nil, api.ErrForm
	}
	bits, at, e := getBits(b, 1)
	if e != api.OK {
		return nil, e
	}
	n := 0
	for _, bit := range bits {
		n += int(bit)
	}
	some, e := getSome(b[at:], kind, how, n)
	if e != api.OK {
		return nil, e
	}
	return spread(some, bits), api.OK
}

// getBits answers a bit for each value, and where in b they end.
func getBits(b []byte, at int) ([]uint64, int, api.Errno) {
	count, n, e := num.Get(b, at)
	if e != api.OK {
		return nil, 0, e
	}
	if count > api.MaxRows {
		return nil, 0, api.ErrLong
	}
	from := at + n
	end := from + pack.Size(int(count), 1)
	if end > len(b) {
		return nil, 0, api.ErrShort
	}
	bits, e := pack.Get(b[from:end], int(count), 1)
	if e != api.OK {
		return nil, 0, e
	}
	return bits, end, api.OK
}

// spread answers a value for each bit: the next of l, or a Null.
func spread(l []val.Val, bits []uint64) []val.Val {
	out := make([]val.Val, len(bits))
	k := 0
	for i, bit := range bits {
		if bit == 1 {
			out[i] = l[k]
			k++
		}
	}
	return out
}

// getSome answers the n values of that kind that b tells that way.
func getSome(b []byte, kind, how, n int) ([]val.Val, api.Errno) {
	switch how {
	case Runs:
		return getRuns(b, n)
	case Steps:
		return getSteps(b, n)
	case Words:
		return getWords(b, n)
	}
	return getPlain(b, kind, n)
}

func getRuns(b []byte, n int) ([]val.Val, api.Errno) {
	l, e := rle.Get(b, n)
	if e != api.OK {
		return nil, e
	}
	if len(l) < n {
		return nil, api.ErrShort
	}
	out := make([]val.Val, n)
	for i, u := range l {
		out[i] = val.Val{Kind: val.Int, N: num.Zag(u)}
	}
	return out, api.OK
}

func getSteps(b []byte, n int) ([]val.Val, api.Errno) {
	l, e := delta.Get(b, n)
	if e != api.OK {
		return nil, e
	}
	out := make([]val.Val, n)
	for i, m := range l {
		out[i] = val.Val{Kind: val.Int, N: m}
	}
	return out, api.OK
}

func getWords(b []byte, n int) ([]val.Val, api.Errno) {
	l, e := dict.Get(b, n)
	if e != api.OK {
		return nil, e
	}
	out := make([]val.Val, n)
	for i, s := range l {
		out[i] = val.Val{Kind: val.Bytes, S: s}
	}
	return out, api.OK
}

func getPlain(b []byte, kind, n int) ([]val.Val, api.Errno) {
	out := make([]val.Val, 0, n)
	at := 0
	for range n {
		v, size, e := getOne(b, at, kind)
		if e != api.OK {
			return nil, e
		}
		out = append(out, v)
		at += size
	}
	if at < len(b) {
		return nil, api.ErrLong
	}
	return out, api.OK
}

// getOne answers the value of that kind that stands in b at at, and how many bytes it has.
func getOne(b []byte, at, kind int) (val.Val, int, api.Errno) {
	if kind == val.Point {
		c, n, e := point.Get(b, at)
		if e != api.OK {
			return val.Val{}, 0, e
		}
		return val.Val{Kind: kind, C: c}, n, api.OK
	}
	u, n, e := num.Get(b, at)
	if e != api.OK {
		return val.Val{}, 0, e
	}
	if kind == val.Int {
		return val.Val{Kind: kind, N: num.Zag(u)}, n, api.OK
	}
	if u > api.MaxBytes {
		return val.Val{}, 0, api.ErrLong
	}
	from, end := at+n, at+n+int(u)
	if end > len(b) {
		return val.Val{}, 0, api.ErrShort
	}
	return val.Val{Kind: kind, S: string(b[from:end])}, end - at, api.OK
}
