package utf_test

import (
	"math"
	"strings"
	"testing"
	"unicode/utf8"

	"polyglot/utf"
)

// edges holds the bytes at which the rules for a byte change, and one at each side.
const edges = "\x00a\x7f\x80\x8f\x90\x9f\xa0\xbf\xc0\xc1\xc2\xdf\xe0\xe1\xec\xed\xee\xef\xf0\xf1\xf3\xf4\xf5\xff"

// eachText calls f with every text of up to most bytes of the alphabet.
func eachText(alphabet string, most int, f func(string)) {
	var grow func(string)
	grow = func(s string) {
		f(s)
		if len(s) == most {
			return
		}
		for i := range len(alphabet) {
			grow(s + alphabet[i:i+1])
		}
	}
	grow("")
}

func allBytes() string {
	var b strings.Builder
	for i := range 256 {
		b.WriteByte(byte(i))
	}
	return b.String()
}

// completable tells whether some well-formed text begins with s: what is
// missing at its end is at most three bytes of a last scalar.
func completable(s string) bool {
	if utf8.ValidString(s) {
		return true
	}
	for cut := 1; cut <= 3 && cut <= len(s); cut++ {
		if utf8.ValidString(s[:len(s)-cut]) && begins(s[len(s)-cut:]) {
			return true
		}
	}
	return false
}

// begins tells whether some scalar's bytes begin with s and go on after it.
func begins(s string) bool {
	for _, second := range []string{"", "\x80", "\x8f", "\x90", "\x9f", "\xa0", "\xbf"} {
		for _, rest := range []string{"", "\x80", "\x80\x80"} {
			if r, n := utf8.DecodeRuneInString(s + second + rest); n > len(s) && n == len(s)+len(second)+len(rest) && r != utf8.RuneError {
				return true
			}
		}
	}
	return false
}

func viable(s string) int {
	n := 0
	for n < len(s) && completable(s[:n+1]) {
		n++
	}
	return n
}

func wantNone(t *testing.T, s string, at int) {
	t.Helper()
	if r, n, ok := utf.Next(s, at); r != 0 || n != 0 || ok {
		t.Fatalf("Next(%x, %d) = %x, %d, %v; want 0, 0, false", s, at, r, n, ok)
	}
}

func TestP1_1EveryScalarThereAndBack(t *testing.T) {
	for r := rune(0); r <= 0x10ffff; r++ {
		if 0xd800 <= r && r <= 0xdfff {
			continue
		}
		s, ok := utf.Encode(r)
		if !ok || s != string(r) {
			t.Fatalf("Encode(%x) = %x, %v; want %x", r, s, ok, string(r))
		}
		got, n, ok := utf.Next(s, 0)
		if got != r || n != len(s) || !ok {
			t.Fatalf("Next(%x, 0) = %x, %d, %v; want %x", s, got, n, ok, r)
		}
	}
}

func TestP1_1EncodeRefusesWhatIsNoScalar(t *testing.T) {
	numbers := []rune{math.MinInt32, -0x110000, -0x80, -1, 0x110000, 0x110001, 0x1fffff, math.MaxInt32}
	for r := rune(0xd800); r <= 0xdfff; r++ {
		numbers = append(numbers, r)
	}
	for _, r := range numbers {
		if s, ok := utf.Encode(r); s != "" || ok {
			t.Errorf("Encode(%x) = %x, %v; want false", r, s, ok)
		}
	}
}

func TestP1_1NextAtEveryIndex(t *testing.T) {
	rows := []struct {
		s    string
		at   int
		want rune
		n    int
	}{
		{"abc", 0, 'a', 1},
		{"abc", 2, 'c', 1},
		{"\x00", 0, 0, 1},
		{"x\xc3\xa9y", 1, 0xe9, 2},
		{"x\xc3\xa9y", 3, 'y', 1},
		{"\xff\xe2\x82\xac\xff", 1, 0x20ac, 3},
		{"\xf0\x9f\x92\xa9\x80", 0, 0x1f4a9, 4},
		{"\xef\xbf\xbd", 0, 0xfffd, 3},
	}
	for _, row := range rows {
		if r, n, ok := utf.Next(row.s, row.at); r != row.want || n != row.n || !ok {
			t.Errorf("Next(%x, %d) = %x, %d, %v; want %x, %d", row.s, row.at, r, n, ok, row.want, row.n)
		}
	}
}

func TestP1_1NextOutsideTheText(t *testing.T) {
	for _, s := range []string{"", "abc", "\xe2\x82\xac"} {
		for _, at := range []int{math.MinInt, -4, -1, len(s), len(s) + 1, math.MaxInt} {
			wantNone(t, s, at)
		}
	}
}

func TestP1_1NextWhereNoScalarIs(t *testing.T) {
	for _, s := range []string{
		"\x80", "\xbf", "\xc0\x80", "\xc1\xbf", "\xe0\x80\x80", "\xe0\x9f\xbf", "\xed\xa0\x80", "\xed\xbf\xbf",
		"\xf0\x80\x80\x80", "\xf0\x8f\xbf\xbf", "\xf4\x90\x80\x80", "\xf5\x80\x80\x80", "\xf8\x88\x80\x80\x80", "\xff",
		"\xc2", "\xc2a", "\xc2\xc2", "\xe2\x82", "\xe2\x82a", "\xf0\x9f\x92", "\xf0\x9f\x92\xc0",
	} {
		wantNone(t, s, 0)
		wantNone(t, "a"+s, 1)
	}
	for at := 1; at < 4; at++ {
		wantNone(t, "\xf0\x9f\x92\xa9", at)
	}
}

func TestP1_1NextAgreesOnAllShortTexts(t *testing.T) {
	eachText(edges, 4, func(s string) {
		want, n := utf8.DecodeRuneInString(s)
		if want == utf8.RuneError && n < 2 {
			wantNone(t, s, 0)
			return
		}
		if r, m, ok := utf.Next(s, 0); r != want || m != n || !ok {
			t.Fatalf("Next(%x, 0) = %x, %d, %v; want %x, %d", s, r, m, ok, want, n)
		}
	})
}

func checkWhole(t *testing.T, s string) {
	t.Helper()
	bad, count := -1, utf8.RuneCountInString(s)
	if !utf8.ValidString(s) {
		bad, count = viable(s), -1
	}
	if got := utf.Bad(s); got != bad {
		t.Fatalf("Bad(%x) = %d; want %d", s, got, bad)
	}
	if got := utf.Count(s); got != count {
		t.Fatalf("Count(%x) = %d; want %d", s, got, count)
	}
}

func TestP1_2AllTextsOfTwoBytes(t *testing.T) {
	eachText(allBytes(), 2, func(s string) { checkWhole(t, s) })
}

func TestP1_2TextsOfEdges(t *testing.T) {
	eachText(edges, 3, func(s string) {
		checkWhole(t, s)
		checkWhole(t, "\xf0\x9f"+s)
		checkWhole(t, "a\xe2\x82\xac"+s)
	})
}

func TestP1_2Examples(t *testing.T) {
	rows := []struct {
		s          string
		bad, count int
	}{
		{"", -1, 0},
		{"abc", -1, 3},
		{"\x00\x00", -1, 2},
		{"a\xc3\xa9\xe2\x82\xac\xf0\x9f\x92\xa9", -1, 4},
		{"\xe2\x28", 1, -1},
		{"\xe2\x82", 2, -1},
		{"\xe2\x82\x28", 2, -1},
		{"ab\xf0\x9f\x92", 5, -1},
		{"ab\xf0\x9f\x92\xc0", 5, -1},
		{"abc\x80", 3, -1},
		{"abc\xff\xff", 3, -1},
		{"\xed\xa0\x80", 1, -1},
		{"\xe0\x9f\x80", 1, -1},
		{"\xf0\x8f\x80\x80", 1, -1},
		{"\xf4\x90\x80\x80", 1, -1},
		{"\xc0\x80", 0, -1},
		{"\xf5\x80\x80\x80", 0, -1},
	}
	for _, row := range rows {
		if got := utf.Bad(row.s); got != row.bad {
			t.Errorf("Bad(%x) = %d; want %d", row.s, got, row.bad)
		}
		if got := utf.Count(row.s); got != row.count {
			t.Errorf("Count(%x) = %d; want %d", row.s, got, row.count)
		}
	}
}

// A text that was cut off inside a scalar is bad at its very end, as nothing but
// its end is missing; one with a wrong byte is bad at that byte, whatever follows.
func TestP1_3CutOffIsNotWrong(t *testing.T) {
	for _, r := range []rune{0x80, 0x7ff, 0x800, 0xfff, 0x1000, 0xd7ff, 0xe000, 0xffff, 0x10000, 0x3ffff, 0x40000, 0x100000, 0x10ffff} {
		code := string(r)
		for cut := 1; cut < len(code); cut++ {
			s := "a\xc3\xa9" + code[:cut]
			if got := utf.Bad(s); got != len(s) {
				t.Errorf("Bad(%x) = %d; want %d, as only its end is missing", s, got, len(s))
			}
			if got := utf.Bad(s + code[cut:]); got != -1 {
				t.Errorf("Bad(%x) = %d after its end was added; want -1", s+code[cut:], got)
			}
			for _, wrong := range []string{"\x00", "a", "\x7f", "\xc0", "\xff"} {
				for _, rest := range []string{"", code[cut:], "\x80\x80\x80", "abc"} {
					if got := utf.Bad(s + wrong + rest); got != len(s) {
						t.Errorf("Bad(%x) = %d; want %d", s+wrong+rest, got, len(s))
					}
				}
			}
		}
	}
}

// Whatever Bad leaves as good can be completed, and one byte more can't.
func TestP1_3TheGoodPartIsTheLongest(t *testing.T) {
	eachText(edges, 4, func(s string) {
		n := utf.Bad(s)
		if n < 0 {
			return
		}
		if n > len(s) || !completable(s[:n]) {
			t.Fatalf("Bad(%x) = %d, but no well-formed text begins so", s, n)
		}
		if n < len(s) && completable(s[:n+1]) {
			t.Fatalf("Bad(%x) = %d, but a well-formed text begins with a byte more", s, n)
		}
	})
}
