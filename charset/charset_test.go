package charset_test

import (
	"math"
	"strings"
	"testing"

	"polyglot/api"
	"polyglot/charset"
	"polyglot/family"
)

const (
	letters = "abcdefghijklmnopqrstuvwxyzABCDEFGHIJKLMNOPQRSTUVWXYZ"
	digits  = "0123456789"
)

// formats and sorts are all there are.
var (
	formats = []int{api.Open, api.Line, api.Dots, api.Stat}
	sorts   = []int{api.OfFamily, api.OfLabel}
)

// strays are formats and sorts of which at least one does not exist.
var strays = [][2]int{
	{0, api.OfFamily}, {0, api.OfLabel}, {5, api.OfFamily}, {5, api.OfLabel}, {-1, api.OfFamily}, {-1, api.OfLabel},
	{api.Open, -1}, {api.Open, 2}, {api.Line, -1}, {api.Line, 2}, {api.Dots, -1}, {api.Dots, 2}, {api.Stat, -1}, {api.Stat, 2},
	{math.MaxInt, 0}, {math.MinInt, 0}, {api.Line, math.MaxInt}, {api.Line, math.MinInt}, {0, 2}, {5, -1}, {256 + api.Line, 256},
}

// one is the string of a byte.
func one(c byte) string { return string([]byte{c}) }

// in tells whether a string has a byte.
func in(set string, c byte) bool { return strings.Contains(set, one(c)) }

// legal is the chapter's list, read format by format.
func legal(proto, what int, s string, i int) bool {
	if i < 0 || i >= len(s) || what != api.OfFamily && what != api.OfLabel {
		return false
	}
	c := s[i]
	switch proto {
	case api.Open:
		return in(letters+"_", c) || in(digits, c) && i != 0 || c == ':' && what == api.OfFamily
	case api.Line:
		return c >= 32 && c <= 126 && c != '\\' && (what == api.OfLabel || i != 0 || c != '#')
	case api.Dots:
		if c == '.' && what == api.OfFamily {
			return i != 0 && i != len(s)-1 && s[i-1] != '.'
		}
		return in(letters+digits+"_-:", c)
	case api.Stat:
		return in(letters+digits+"_-.", c)
	}
	return false
}

// bad is the first byte that is not legal.
func bad(proto, what int, s string) int {
	for i := range len(s) {
		if !legal(proto, what, s, i) {
			return i
		}
	}
	return -1
}

// names gives f each format and sort of name.
func names(f func(proto, what int)) {
	for _, proto := range formats {
		for _, what := range sorts {
			f(proto, what)
		}
	}
}

// each gives f all strings of some pieces, at most so many.
func each(pieces []string, most int, f func(s string)) {
	var grow func(s string, n int)
	grow = func(s string, n int) {
		f(s)
		if n == most {
			return
		}
		for _, p := range pieces {
			grow(s+p, n+1)
		}
	}
	grow("", 0)
}

// all gives f all strings of a few bytes of every class, with the bytes beside the
// classes' ends among them.
func all(f func(s string)) {
	pieces := []string{"a", "Z", "0", "9", "_", "-", ":", ".", "#", " ", "~", "/", "\\", "\x1f", "\x7f", "\x80"}
	each(pieces, 4, f)
}

// held tells of every byte of s, and of some beside it, whether Legal is as expected.
func held(t *testing.T, proto, what int, s string) {
	t.Helper()
	for i := -1; i <= len(s); i++ {
		if got := charset.Legal(proto, what, s, i); got != legal(proto, what, s, i) {
			t.Errorf("Legal(%d, %d, %q, %d): %v", proto, what, s, i, got)
		}
	}
}

func TestP12_1Example(t *testing.T) {
	if charset.Legal(api.Open, api.OfLabel, "a:b", 1) {
		t.Error("a colon in the name of a label")
	}
	if !charset.Legal(api.Open, api.OfFamily, "a:b", 1) {
		t.Error("no colon in the name of a family")
	}
}

func TestP12_1Table(t *testing.T) {
	for _, c := range []struct {
		proto, what int
		s           string
		want        string // y or n for each byte
	}{
		{api.Open, api.OfFamily, "9a9", "nyy"},
		{api.Open, api.OfFamily, "::_", "yyy"},
		{api.Open, api.OfFamily, "a-b.c d", "ynynyny"},
		{api.Open, api.OfFamily, "99", "ny"},
		{api.Open, api.OfLabel, "9_9", "nyy"},
		{api.Open, api.OfLabel, ":a:", "nyn"},
		{api.Line, api.OfFamily, "#a#", "nyy"},
		{api.Line, api.OfFamily, "##", "ny"},
		{api.Line, api.OfFamily, " ,=\"~\\\x1f\x7f", "yyyyynnn"},
		{api.Line, api.OfFamily, "\xc3\xa9", "nn"},
		{api.Line, api.OfLabel, "#a#", "yyy"},
		{api.Line, api.OfLabel, " ,=\"~\\\n\x00", "yyyyynnn"},
		{api.Dots, api.OfFamily, ".a.b.", "nyyyn"},
		{api.Dots, api.OfFamily, "a..b", "yyny"},
		{api.Dots, api.OfFamily, "a...b", "yynny"},
		{api.Dots, api.OfFamily, "a..", "yyn"},
		{api.Dots, api.OfFamily, ".", "n"},
		{api.Dots, api.OfFamily, "..", "nn"},
		{api.Dots, api.OfFamily, "...", "nnn"},
		{api.Dots, api.OfFamily, "-.:.9", "yyyyy"},
		{api.Dots, api.OfFamily, " .\\", "nyn"},
		{api.Dots, api.OfLabel, "9.-:_", "ynyyy"},
		{api.Stat, api.OfFamily, "..9-_", "yyyyy"},
		{api.Stat, api.OfFamily, "a:b#c|", "ynynyn"},
		{api.Stat, api.OfLabel, "..9-_", "yyyyy"},
		{api.Stat, api.OfLabel, "a:b#c|", "ynynyn"},
	} {
		for i := range len(c.s) {
			if got := charset.Legal(c.proto, c.what, c.s, i); got != (c.want[i] == 'y') {
				t.Errorf("Legal(%d, %d, %q, %d): %v", c.proto, c.what, c.s, i, got)
			}
		}
	}
}

func TestP12_1EveryByteEverywhere(t *testing.T) {
	names(func(proto, what int) {
		for c := range 256 {
			x := one(byte(c))
			held(t, proto, what, x)
			for _, y := range []string{"a", "0", ".", "#", ":", "\\", "\xff"} {
				for _, s := range []string{x + y, y + x, y + x + y, "a" + y + x, x + y + "a"} {
					held(t, proto, what, s)
				}
			}
		}
	})
}

func TestP12_1AllShortStrings(t *testing.T) {
	all(func(s string) {
		names(func(proto, what int) { held(t, proto, what, s) })
	})
}

func TestP12_1NoSuchByte(t *testing.T) {
	names(func(proto, what int) {
		for _, s := range []string{"", "a", "abc"} {
			for _, i := range []int{-1, len(s), len(s) + 1, math.MaxInt, math.MinInt} {
				if charset.Legal(proto, what, s, i) {
					t.Errorf("Legal(%d, %d, %q, %d)", proto, what, s, i)
				}
			}
		}
	})
}

func TestP12_1NoSuchFormatOrSort(t *testing.T) {
	for _, p := range strays {
		for c := range 256 {
			s := "a" + one(byte(c)) + "a"
			for i := -1; i <= len(s); i++ {
				if charset.Legal(p[0], p[1], s, i) {
					t.Errorf("Legal(%d, %d, %q, %d)", p[0], p[1], s, i)
				}
			}
		}
	}
}

// A name may be longer than MaxName: Legal is of bytes alone.
func TestP12_1LongNames(t *testing.T) {
	s := strings.Repeat("a.", 2000) + "b"
	for _, i := range []int{0, api.MaxName - 1, api.MaxName, api.MaxName + 1, len(s) - 2, len(s) - 1} {
		if !charset.Legal(api.Dots, api.OfFamily, s, i) {
			t.Errorf("byte %d of a long name", i)
		}
	}
}

func TestP12_2Is(t *testing.T) {
	most := strings.Repeat("a", api.MaxName)
	names(func(proto, what int) {
		for s, want := range map[string]bool{"": false, "a": true, most: true, most + "a": false, most + most: false, most[1:]: true, most[1:] + "\\": false, "\xff": false, "\n": false} {
			if charset.Is(proto, what, s) != want {
				t.Errorf("Is(%d, %d, %q): %v", proto, what, s, !want)
			}
		}
	})
}

func TestP12_2Table(t *testing.T) {
	for _, c := range []struct {
		proto, what int
		s           string
		bad         int
	}{
		{api.Open, api.OfFamily, "a:b", -1},
		{api.Open, api.OfLabel, "a:b", 1},
		{api.Open, api.OfFamily, "1a", 0},
		{api.Open, api.OfLabel, "a1-.", 2},
		{api.Line, api.OfFamily, "#", 0},
		{api.Line, api.OfLabel, "#", -1},
		{api.Line, api.OfFamily, " ", -1},
		{api.Line, api.OfFamily, "a b,c=d", -1},
		{api.Line, api.OfFamily, "ab\\,", 2},
		{api.Dots, api.OfFamily, "a.b.c", -1},
		{api.Dots, api.OfFamily, "a..b.", 2},
		{api.Dots, api.OfFamily, "a.b.", 3},
		{api.Dots, api.OfFamily, ".", 0},
		{api.Dots, api.OfLabel, "a.b", 1},
		{api.Stat, api.OfFamily, ".", -1},
		{api.Stat, api.OfLabel, "a.b:", 3},
	} {
		if got := charset.Bad(c.proto, c.what, c.s); got != c.bad {
			t.Errorf("Bad(%d, %d, %q): %d", c.proto, c.what, c.s, got)
		}
		if got := charset.Is(c.proto, c.what, c.s); got != (c.bad < 0) {
			t.Errorf("Is(%d, %d, %q): %v", c.proto, c.what, c.s, got)
		}
	}
}

func TestP12_2AllShortStrings(t *testing.T) {
	all(func(s string) {
		names(func(proto, what int) {
			want := bad(proto, what, s)
			if got := charset.Bad(proto, what, s); got != want {
				t.Errorf("Bad(%d, %d, %q): %d", proto, what, s, got)
			}
			if got := charset.Is(proto, what, s); got != (want < 0 && s != "") {
				t.Errorf("Is(%d, %d, %q): %v", proto, what, s, got)
			}
		})
	})
}

// Bad is bound by no length, as Is is.
func TestP12_2BadOfLongNames(t *testing.T) {
	long := strings.Repeat("a", 3*api.MaxName)
	names(func(proto, what int) {
		if got := charset.Bad(proto, what, long); got != -1 {
			t.Errorf("Bad(%d, %d) of a long name: %d", proto, what, got)
		}
		if got := charset.Bad(proto, what, long+"\\a"); got != len(long) {
			t.Errorf("Bad(%d, %d) of a long name with a wrong byte: %d", proto, what, got)
		}
	})
}

func TestP12_2NoSuchFormatOrSort(t *testing.T) {
	for _, p := range strays {
		for _, s := range []string{"a", "abc", ".", "\xff"} {
			if charset.Is(p[0], p[1], s) {
				t.Errorf("Is(%d, %d, %q)", p[0], p[1], s)
			}
			if got := charset.Bad(p[0], p[1], s); got != 0 {
				t.Errorf("Bad(%d, %d, %q): %d", p[0], p[1], s, got)
			}
		}
		if charset.Is(p[0], p[1], "") {
			t.Errorf("Is(%d, %d) of the empty string", p[0], p[1])
		}
		if got := charset.Bad(p[0], p[1], ""); got != -1 {
			t.Errorf("Bad(%d, %d) of the empty string: %d", p[0], p[1], got)
		}
	}
}

// The name of a family becomes the name of a series.
func TestP12_3Series(t *testing.T) {
	all(func(s string) {
		if !charset.Is(api.Open, api.OfFamily, s) {
			return
		}
		for kind := api.Untyped; kind <= api.Summary; kind++ {
			for role := api.Plain; role <= api.Sum; role++ {
				name, ok := family.Series(api.Head{Name: s, Kind: kind}, role)
				if ok && !charset.Is(api.Open, api.OfFamily, name) {
					t.Errorf("%q becomes %q", s, name)
				}
			}
		}
	})
}

// Nodes become a path, and a measurement and the key of a field become a name.
func TestP12_3JoinedByPoints(t *testing.T) {
	each([]string{"a", "0", "_", "-", ":", ".", "#", " ", "~"}, 2, func(s string) {
		each([]string{"Z", "9", "_", ".", "#", "="}, 2, func(u string) {
			name := s + "." + u
			if charset.Is(api.Dots, api.OfLabel, s) && charset.Is(api.Dots, api.OfLabel, u) && !charset.Is(api.Dots, api.OfFamily, name) {
				t.Errorf("%q and %q become %q", s, u, name)
			}
			if charset.Is(api.Dots, api.OfFamily, s) && charset.Is(api.Dots, api.OfFamily, u) && !charset.Is(api.Dots, api.OfFamily, name) {
				t.Errorf("%q and %q become %q", s, u, name)
			}
			if charset.Is(api.Line, api.OfFamily, s) && charset.Is(api.Line, api.OfLabel, u) && !charset.Is(api.Line, api.OfFamily, name) {
				t.Errorf("%q and %q become %q", s, u, name)
			}
		})
	})
}

// replaced is s with something in the place of each byte that is not Legal.
func replaced(proto, what int, s string, by func(c byte) string) string {
	var b strings.Builder
	for i := range len(s) {
		if charset.Legal(proto, what, s, i) {
			b.WriteByte(s[i])
		} else {
			b.WriteString(by(s[i]))
		}
	}
	return b.String()
}

// What is Legal in a name stays so when all that is not is replaced.
func TestP12_3Replaced(t *testing.T) {
	const hex = "0123456789abcdef"
	all(func(s string) {
		names(func(proto, what int) {
			for _, name := range []string{
				replaced(proto, what, s, func(byte) string { return "_" }),
				replaced(proto, what, s, func(c byte) string { return "_x" + hex[c>>4:c>>4+1] + hex[c&15:c&15+1] }),
			} {
				if got := charset.Bad(proto, what, name); got != -1 {
					t.Errorf("%q becomes %q: %d, %d, bad at %d", s, name, proto, what, got)
				}
				if legal := charset.Bad(proto, what, s) < 0; legal != (name == s) {
					t.Errorf("%q becomes %q: %d, %d", s, name, proto, what)
				}
			}
		})
	})
}
