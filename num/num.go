// Package num: numbers in bytes. See doc/01-num.md.
package num

import "noria/api"

const (
	most = 10         // as many bytes as 64 bits take, seven by seven
	turn = 0xEDB88320 // the sum's polynomial, its bits turned round
)

// Put answers b and u behind it, seven bits by seven, the lowest first.
func Put(b []byte, u uint64) []byte {
	out := make([]byte, len(b), len(b)+most)
	copy(out, b)
more:
	if u < 128 {
		return append(out, byte(u))
	}
	out = append(out, byte(u)|128)
	u >>= 7
	goto more
}

// Get answers the number that stands in b at at, and how many bytes it has.
func Get(b []byte, at int) (uint64, int, api.Errno) {
	if at < 0 || at > len(b) {
		return 0, 0, api.ErrArg
	}
	u, n := uint64(0), 0
more:
	if at+n == len(b) {
		return 0, 0, api.ErrShort
	}
	c := b[at+n]
	if n == most-1 && c > 1 || n > 0 && c == 0 {
		return 0, 0, api.ErrForm
	}
	u |= uint64(c&127) << (7 * n)
	n++
	if c >= 128 {
		goto more
	}
	return u, n, api.OK
}

// Zig tells n by a number that is small where n is near 0.
func Zig(n int64) uint64 {
	return uint64(n)<<1 ^ uint64(n>>63)
}

// Zag is Zig's way back.
func Zag(u uint64) int64 {
	return int64(u>>1) ^ -int64(u&1)
}

// Sum answers the CRC of 32 bits of b.
func Sum(b []byte) uint32 {
	sum, i := ^uint32(0), 0
more:
	if i == len(b) {
		return ^sum
	}
	sum = eight(sum ^ uint32(b[i]))
	i++
	goto more
}

func eight(sum uint32) uint32 {
	for range 8 {
		sum = sum>>1 ^ turn&-(sum&1)
	}
	return sum
}

// Put4 answers b and n behind it in four bytes, the lowest first.
func Put4(b []byte, n uint32) []byte {
	out := make([]byte, len(b), len(b)+4)
	copy(out, b)
	return append(out, byte(n), byte(n>>8), byte(n>>16), byte(n>>24))
}

// Get4 answers the number whose four bytes stand in b at at, and 4.
func Get4(b []byte, at int) (uint32, int, api.Errno) {
	if at < 0 || at > len(b) {
		return 0, 0, api.ErrArg
	}
	if len(b)-at < 4 {
		return 0, 0, api.ErrShort
	}
	return uint32(b[at]) | uint32(b[at+1])<<8 | uint32(b[at+2])<<16 | uint32(b[at+3])<<24, 4, api.OK
}
