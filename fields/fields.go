// Package fields is layer 1: numbers in strings of bytes (see shared/doc/01-fields.md).
package fields

import "strings"

const (
	maxSize = 8    // bytes of a number
	maxPad  = 4096 // bytes that a text is padded to a multiple of
)

// Big is the number in the n bytes of s from at on, the most significant one first.
func Big(s string, at, n int) (uint64, bool) { return read(s, at, n, highFirst) }

// Little is the number in the n bytes of s from at on, the least significant one first.
func Little(s string, at, n int) (uint64, bool) { return read(s, at, n, lowFirst) }

// PutBig is the n least significant bytes of v, the most significant one first.
func PutBig(v uint64, n int) string { return write(v, n, highFirst) }

// PutLittle is the n least significant bytes of v, the least significant one first.
func PutLittle(v uint64, n int) string { return write(v, n, lowFirst) }

// Bit tells whether bit n of v is set.
func Bit(v uint64, n int) bool { return Bits(v, n, 1) == 1 }

// Bits is the n bits of v from bit lo on, as a number.
func Bits(v uint64, lo, n int) uint64 {
	// lo + n could wrap round, so the room above lo is asked instead.
	if lo < 0 || n < 1 || n > 64-lo {
		return 0
	}
	return v >> lo & (1<<n - 1)
}

// Pad is s with zero bytes behind it, up to a multiple of n.
func Pad(s string, n int) string {
	if n < 1 || n > maxPad {
		return s
	}
	over := len(s) % n
	if over == 0 {
		return s
	}
	return s + strings.Repeat("\x00", n-over)
}

// Set is s with the bytes from at on replaced with those of with.
func Set(s string, at int, with string) (string, bool) {
	if at < 0 {
		return "", false
	}
	if with == "" {
		// None is to be replaced, so none can be missing, wherever at points.
		return s, true
	}
	if at > len(s)-len(with) {
		return "", false
	}
	return s[:at] + with + s[at+len(with):], true
}

// order tells how far the byte with index i of a number of n bytes is shifted in it.
type order func(i, n int) int

func highFirst(i, n int) int { return 8 * (n - 1 - i) }

func lowFirst(i, n int) int { return 8 * i }

// across gathers something of the n bytes of a number, in the order in which they stand.
// Reading and writing both go through it, whatever the size, so that they can't differ in the order.
func across[T any](start T, n int, o order, step func(so T, i, shift int) T) T {
	so := start
	for i := range n {
		so = step(so, i, o(i, n))
	}
	return so
}

func read(s string, at, n int, o order) (uint64, bool) {
	if !isSize(n) || at < 0 || at > len(s)-n {
		return 0, false
	}
	v := across(0, n, o, func(so uint64, i, shift int) uint64 {
		return so | uint64(s[at+i])<<shift
	})
	return v, true
}

func write(v uint64, n int, o order) string {
	if !isSize(n) {
		return ""
	}
	b := across(make([]byte, 0, maxSize), n, o, func(so []byte, _, shift int) []byte {
		return append(so, byte(v>>shift))
	})
	return string(b)
}

func isSize(n int) bool { return n >= 1 && n <= maxSize }
