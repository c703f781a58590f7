// Package utf: scalars as bytes: see doc/01-utf.md.
package utf

// most is the greatest number of bytes of a scalar.
const most = 4

// bound is a range of bytes, both ends included.
type bound struct{ low, high byte }

func (b bound) holds(c byte) bool { return b.low <= c && c <= b.high }

// shape tells how many bytes the scalars of a range have, and the bounds of each byte.
type shape struct {
	size   int
	bounds [most]bound
}

// shapes has a row for each range of first bytes. The second byte's bounds alone
// keep out encodings that are longer than need be, the numbers from d800 to dfff,
// and those above 10ffff: so a byte within its bounds can always be completed.
var shapes = [...]shape{
	{1, [most]bound{{0x00, 0x7f}}},
	{2, [most]bound{{0xc2, 0xdf}, {0x80, 0xbf}}},
	{3, [most]bound{{0xe0, 0xe0}, {0xa0, 0xbf}, {0x80, 0xbf}}},
	{3, [most]bound{{0xe1, 0xec}, {0x80, 0xbf}, {0x80, 0xbf}}},
	{3, [most]bound{{0xed, 0xed}, {0x80, 0x9f}, {0x80, 0xbf}}},
	{3, [most]bound{{0xee, 0xef}, {0x80, 0xbf}, {0x80, 0xbf}}},
	{4, [most]bound{{0xf0, 0xf0}, {0x90, 0xbf}, {0x80, 0xbf}, {0x80, 0xbf}}},
	{4, [most]bound{{0xf1, 0xf3}, {0x80, 0xbf}, {0x80, 0xbf}, {0x80, 0xbf}}},
	{4, [most]bound{{0xf4, 0xf4}, {0x80, 0x8f}, {0x80, 0xbf}, {0x80, 0xbf}}},
}

// ends has, for each number of bytes less one, the first number that needs more.
var ends = [most]rune{0x80, 0x800, 0x10000, 0x110000}

// marks has, for each number of bytes less one, the bits that the first byte is marked with.
var marks = [most]byte{0x00, 0xc0, 0xe0, 0xf0}

// Next returns the scalar whose bytes begin at the index at of s, the number of
// these bytes, and true; false if no scalar's bytes are there.
func Next(s string, at int) (rune, int, bool) {
	if at < 0 || at >= len(s) {
		return 0, 0, false
	}
	size, whole := fit(s, at)
	if !whole {
		return 0, 0, false
	}
	return join(s[at : at+size]), size, true
}

// Encode returns the bytes of r and true; false if r is not a scalar.
func Encode(r rune) (string, bool) {
	if !scalar(r) {
		return "", false
	}
	last := 0
	for r >= ends[last] {
		last++
	}
	var code [most]byte
	for i := last; i > 0; i-- {
		code[i] = 0x80 | byte(r&0x3f)
		r >>= 6
	}
	code[0] = marks[last] | byte(r)
	return string(code[:last+1]), true
}

// Bad returns -1 if s is well-formed, and otherwise the length of the longest
// prefix of s with which some well-formed string begins.
func Bad(s string) int {
	at := 0
	for at < len(s) {
		n, whole := fit(s, at)
		at += n
		if !whole {
			return at
		}
	}
	return -1
}

// Count returns the number of scalars of s, and -1 if s is not well-formed.
func Count(s string) int {
	count, at := 0, 0
	for at < len(s) {
		n, whole := fit(s, at)
		if !whole {
			return -1
		}
		at += n
		count++
	}
	return count
}

func scalar(r rune) bool {
	return 0 <= r && r < 0xd800 || 0xdfff < r && r < ends[most-1]
}

// fit returns how many bytes of s from the index at on, which is within s, a
// scalar can begin with, and whether they are all the bytes of a scalar.
func fit(s string, at int) (int, bool) {
	for _, sh := range shapes {
		if sh.bounds[0].holds(s[at]) {
			return sh.match(s[at:])
		}
	}
	return 0, false
}

// match is fit for the beginning of s and the scalars of one shape.
func (sh shape) match(s string) (int, bool) {
	for i := 0; i < sh.size; i++ {
		if i == len(s) || !sh.bounds[i].holds(s[i]) {
			return i, false
		}
	}
	return sh.size, true
}

// join returns the scalar that code is all the bytes of.
func join(code string) rune {
	r := rune(code[0] ^ marks[len(code)-1])
	for i := 1; i < len(code); i++ {
		r = r<<6 | rune(code[i]&0x3f)
	}
	return r
}
