package escape_test

import (
	"fmt"
	"math"
	"math/rand"
	"slices"
	"strings"
	"testing"

	"polyglot/api"
	"polyglot/charset"
	"polyglot/escape"
)

// formats and sorts are all there are.
var (
	formats = []int{api.Open, api.Line, api.Dots, api.Stat}
	sorts   = []int{api.OfFamily, api.OfLabel}
)

// strays are formats and sorts of which at least one does not exist.
var strays = [][2]int{
	{0, api.OfFamily}, {0, api.OfLabel}, {5, api.OfFamily}, {5, api.OfLabel}, {-1, api.OfFamily}, {-1, api.OfLabel},
	{api.Open, -1}, {api.Open, 2}, {api.Line, -1}, {api.Line, 2}, {api.Dots, -1}, {api.Dots, 2}, {api.Stat, -1}, {api.Stat, 2},
	{math.MaxInt, 0}, {math.MinInt, 0}, {api.Line, math.MaxInt}, {api.Line, math.MinInt}, {0, 2}, {5, -1}, {256 + api.Line, 256},
}

// one is the string of a byte.
func one(c byte) string { return string([]byte{c}) }

// code is what a byte is replaced by.
func code(c byte) string { return fmt.Sprintf("_x%02x", c) }

// escaped is the chapter's Escape, read byte by byte.
func escaped(proto, what int, s string) string {
	e := ""
	for i := range len(s) {
		before := s[i] == '_' && i+1 < len(s) && s[i+1] == 'x'
		if before || !charset.Legal(proto, what, s, i) {
			e += code(s[i])
		} else {
			e += one(s[i])
		}
	}
	return e
}

// undone is the chapter's Undo: it asks each byte's code whether it is here.
func undone(s string) (string, bool) {
	if s == "" {
		return "", true
	}
	head, n := s[:1], 1
	if strings.HasPrefix(s, "_x") {
		c := 0
		for c < 256 && !strings.HasPrefix(s, code(byte(c))) {
			c++
		}
		if c == 256 {
			return "", false
		}
		head, n = one(byte(c)), 4
	}
	rest, ok := undone(s[n:])
	if !ok {
		return "", false
	}
	return head + rest, true
}

// back is the chapter's Back.
func back(proto, what int, s string) string {
	if name, ok := undone(s); ok && escaped(proto, what, name) == s {
		return name
	}
	return s
}

// names gives f each format and sort of name.
func names(f func(proto, what int)) {
	for _, proto := range formats {
		for _, what := range sorts {
			f(proto, what)
		}
	}
}

// each gives f all strings of some pieces, at most so many.
func each(pieces []string, most int, f func(s string)) {
	var grow func(s string, n int)
	grow = func(s string, n int) {
		f(s)
		if n == most {
			return
		}
		for _, p := range pieces {
			grow(s+p, n+1)
		}
	}
	grow("", 0)
}

// all gives f all short strings of bytes of every class, of which the mark's and some
// digits are two each.
func all(f func(s string)) {
	each([]string{"_", "x", "_x", "X", "a", "2", "e", ".", "#", ":", "-", " ", "\\", "\x00", "\xff"}, 4, f)
}

// drawn gives f strings of any bytes, most of them those that an escaped byte has.
func drawn(f func(s string)) {
	r := rand.New(rand.NewSource(13))
	const some = "__xx__xx0123456789abcdefABCDEFgG.:#-"
	for range 20000 {
		s := make([]byte, r.Intn(24))
		for i := range s {
			s[i] = some[r.Intn(len(some))]
			if r.Intn(6) == 0 {
				s[i] = byte(r.Intn(256))
			}
		}
		f(string(s))
	}
}

func TestP13_1Examples(t *testing.T) {
	if got := escape.Escape(api.Open, api.OfLabel, "a.b"); got != "a_x2eb" {
		t.Errorf("a.b becomes %q", got)
	}
	if got, ok := escape.Undo("a_x2eb"); got != "a.b" || !ok {
		t.Errorf("a_x2eb becomes %q, %v", got, ok)
	}
}

func TestP13_1Table(t *testing.T) {
	for _, c := range []struct {
		proto, what int
		s, want     string
	}{
		{api.Open, api.OfFamily, "", ""},
		{api.Open, api.OfFamily, "a:b_9", "a:b_9"},
		{api.Open, api.OfLabel, "a:b_9", "a_x3ab_9"},
		{api.Open, api.OfFamily, "99", "_x399"},
		{api.Open, api.OfFamily, "9.9", "_x39_x2e9"},
		{api.Open, api.OfFamily, ".9", "_x2e9"},
		{api.Open, api.OfLabel, "a-b c", "a_x2db_x20c"},
		{api.Open, api.OfLabel, "\xc3\xa9", "_xc3_xa9"},
		{api.Open, api.OfLabel, "\x00\n\x7f\x80\xff", "_x00_x0a_x7f_x80_xff"},
		{api.Open, api.OfLabel, "_x", "_x5fx"},
		{api.Open, api.OfLabel, "x_", "x_"},
		{api.Open, api.OfLabel, "__x", "__x5fx"},
		{api.Open, api.OfLabel, "_xx", "_x5fxx"},
		{api.Open, api.OfLabel, "_x_x", "_x5fx_x5fx"},
		{api.Open, api.OfLabel, "_X", "_X"},
		{api.Open, api.OfLabel, "_.x", "__x2ex"},
		{api.Open, api.OfLabel, "_x2e", "_x5fx2e"},
		{api.Line, api.OfFamily, "##", "_x23#"},
		{api.Line, api.OfLabel, "##", "##"},
		{api.Line, api.OfLabel, "a b,c=\"~\\", "a b,c=\"~_x5c"},
		{api.Line, api.OfFamily, "_x41", "_x5fx41"},
		{api.Dots, api.OfFamily, "a.b.c", "a.b.c"},
		{api.Dots, api.OfFamily, ".a..b.", "_x2ea._x2eb_x2e"},
		{api.Dots, api.OfFamily, "...", "_x2e_x2e_x2e"},
		{api.Dots, api.OfFamily, "a...b", "a._x2e_x2eb"},
		{api.Dots, api.OfLabel, "a.b:c-", "a_x2eb:c-"},
		{api.Dots, api.OfFamily, "_x.", "_x5fx_x2e"},
		{api.Stat, api.OfFamily, "..a:b", "..a_x3ab"},
		{api.Stat, api.OfLabel, "a|b_x", "a_x7cb_x5fx"},
	} {
		if got := escape.Escape(c.proto, c.what, c.s); got != c.want {
			t.Errorf("Escape(%d, %d, %q): %q", c.proto, c.what, c.s, got)
		}
		if got, ok := escape.Undo(c.want); got != c.s || !ok {
			t.Errorf("Undo(%q): %q, %v", c.want, got, ok)
		}
	}
}

func TestP13_1EveryByteEverywhere(t *testing.T) {
	names(func(proto, what int) {
		for c := range 256 {
			x := one(byte(c))
			for _, y := range []string{"a", "0", ".", "#", "_", "x", "\\", "\xff"} {
				for _, s := range []string{x, x + y, y + x, y + x + y, "_" + x + y, x + "x" + y, "_x" + x} {
					if got := escape.Escape(proto, what, s); got != escaped(proto, what, s) {
						t.Errorf("Escape(%d, %d, %q): %q", proto, what, s, got)
					}
				}
			}
		}
	})
}

func TestP13_1AllShortStrings(t *testing.T) {
	all(func(s string) {
		names(func(proto, what int) {
			if got := escape.Escape(proto, what, s); got != escaped(proto, what, s) {
				t.Errorf("Escape(%d, %d, %q): %q", proto, what, s, got)
			}
		})
	})
}

// What is replaced is so by bytes that are Legal wherever they stand.
func TestP13_1ResultIsLegal(t *testing.T) {
	legal := func(s string) {
		names(func(proto, what int) {
			e := escape.Escape(proto, what, s)
			if at := charset.Bad(proto, what, e); at >= 0 {
				t.Errorf("Escape(%d, %d, %q): %q is not legal at %d", proto, what, s, e, at)
			}
			if as := charset.Bad(proto, what, s) < 0 && !strings.Contains(s, "_x"); as != (e == s) {
				t.Errorf("Escape(%d, %d, %q): %q", proto, what, s, e)
			}
		})
	}
	all(legal)
	drawn(legal)
}

func TestP13_1NoSuchFormatOrSort(t *testing.T) {
	for _, p := range strays {
		want := ""
		var s []byte
		for c := range 256 {
			s = append(s, byte(c))
			want += code(byte(c))
		}
		if got := escape.Escape(p[0], p[1], string(s)); got != want {
			t.Errorf("Escape(%d, %d) of all bytes: %q", p[0], p[1], got)
		}
		if got := escape.Escape(p[0], p[1], "_xa_"); got != "_x5f_x78_x61_x5f" {
			t.Errorf("Escape(%d, %d) of _xa_: %q", p[0], p[1], got)
		}
		if got := escape.Escape(p[0], p[1], ""); got != "" {
			t.Errorf("Escape(%d, %d) of the empty string: %q", p[0], p[1], got)
		}
	}
}

// Neither call is bound by the length of a name.
func TestP13_1LongNames(t *testing.T) {
	const n = 5 * api.MaxText
	for _, c := range [][2]string{{"a", "a"}, {".", "_x2e"}, {"_x", "_x5fx"}, {"_", "_"}, {"b..", "b_x2e_x2e"}} {
		s, e := strings.Repeat(c[0], n), strings.Repeat(c[1], n)
		if escape.Escape(api.Open, api.OfLabel, s) != e {
			t.Errorf("Escape of many %q", c[0])
		}
		if got, ok := escape.Undo(e); got != s || !ok {
			t.Errorf("Undo of many %q: %v", c[1], ok)
		}
		if escape.Back(api.Open, api.OfLabel, e) != s {
			t.Errorf("Back of many %q", c[1])
		}
		if got, ok := escape.Undo(e + "_x"); got != "" || ok {
			t.Errorf("Undo of many %q and a mark: %v", c[1], ok)
		}
	}
}

func TestP13_1Undo(t *testing.T) {
	for s, want := range map[string]string{
		"": "", "_": "_", "x": "x", "abc": "abc", "_X41": "_X41", "x_41": "x_41", "_ x41": "_ x41",
		"_x41": "A", "_x5f": "_", "_x5fx41": "_x41", "_x5f_x78": "_x", "__x41": "_A", "_x41x": "Ax", "_x411": "A1", "_x41_": "A_",
		"_x5fx": "_x", "_x5fxg": "_xg", "_x78": "x", "__x7841": "_x41",
		"_x00_x09_x0a_x90_xa0_x99_xaf_xfa_xff": "\x00\x09\x0a\x90\xa0\x99\xaf\xfa\xff", "\xff_x2e\x00": "\xff.\x00",
	} {
		if got, ok := escape.Undo(s); got != want || !ok {
			t.Errorf("Undo(%q): %q, %v", s, got, ok)
		}
	}
	for _, s := range []string{
		"_x", "_x4", "a_x", "__x", "_xx", "_xx41", "_x_x41", "_x4_x41", "_x41_x", "_x41_x4", "_x_", "_x4x",
		"_x4A", "_xA4", "_xFF", "_x4g", "_xg4", "_x`0", "_x0`", "_x:0", "_x0:", "_x/0", "_x0/", "_x-1", "_x+1", "_x 1", "_x1 ", "_x\x00\x00", "_x4\xff",
		"_x5fx_x", "_x5f_x", "a.b_x2e_xg",
	} {
		if got, ok := escape.Undo(s); got != "" || ok {
			t.Errorf("Undo(%q): %q, %v", s, got, ok)
		}
	}
}

// Only 256 of all pairs of bytes are two digits.
func TestP13_1UndoEveryPair(t *testing.T) {
	count := 0
	for c := range 256 {
		for d := range 256 {
			s := "_x" + one(byte(c)) + one(byte(d))
			got, ok := escape.Undo(s)
			if ok {
				count++
			}
			if ok && (len(got) != 1 || code(got[0]) != s) || !ok && got != "" {
				t.Errorf("Undo(%q): %q, %v", s, got, ok)
			}
		}
	}
	if count != 256 {
		t.Errorf("%d pairs are digits", count)
	}
}

func TestP13_1UndoAllShortStrings(t *testing.T) {
	undo := func(s string) {
		want, whole := undone(s)
		if got, ok := escape.Undo(s); got != want || ok != whole {
			t.Errorf("Undo(%q): %q, %v", s, got, ok)
		}
	}
	each([]string{"_x", "_", "x", "0", "a", "f", "A", "g", "\xff"}, 5, undo)
	drawn(undo)
}

func TestP13_2BackExample(t *testing.T) {
	if got := escape.Back(api.Open, api.OfLabel, "_x41"); got != "_x41" {
		t.Errorf("Back of _x41: %q", got)
	}
}

func TestP13_2BackTable(t *testing.T) {
	for _, c := range []struct {
		proto, what int
		s, want     string
	}{
		{api.Open, api.OfLabel, "", ""},
		{api.Open, api.OfLabel, "abc", "abc"},
		{api.Open, api.OfLabel, "a_x2eb", "a.b"},
		{api.Open, api.OfLabel, "_x5fx41", "_x41"},
		{api.Open, api.OfLabel, "_x5f", "_x5f"},         // a _ before no x stays
		{api.Open, api.OfLabel, "_x5f_x78", "_x5f_x78"}, // an x stays
		{api.Open, api.OfLabel, "_x319", "19"},
		{api.Open, api.OfLabel, "a_x31", "a_x31"}, // a digit that is not the first byte stays
		{api.Open, api.OfLabel, "_x2e9", ".9"},
		{api.Open, api.OfLabel, "a.b", "a.b"}, // a point does not stay
		{api.Open, api.OfLabel, "a.b_x2e", "a.b_x2e"},
		{api.Open, api.OfLabel, "a_x3ab", "a:b"},
		{api.Open, api.OfFamily, "a_x3ab", "a_x3ab"},
		{api.Open, api.OfLabel, "a_x2e_x", "a_x2e_x"},
		{api.Open, api.OfLabel, "a_x2E", "a_x2E"},
		{api.Line, api.OfFamily, "_x23a", "#a"},
		{api.Line, api.OfLabel, "_x23a", "_x23a"},
		{api.Line, api.OfFamily, "a_x23", "a_x23"},
		{api.Dots, api.OfFamily, "a._x2eb", "a..b"},
		{api.Dots, api.OfFamily, "a_x2eb", "a_x2eb"},
		{api.Dots, api.OfFamily, "a_x2e.b", "a_x2e.b"}, // of two points the second one is replaced
		{api.Dots, api.OfLabel, "a_x2eb", "a.b"},
		{api.Stat, api.OfLabel, "a_x3ab", "a:b"},
		{api.Stat, api.OfLabel, "a_x2eb", "a_x2eb"},
		{0, 0, "_x61", "a"},
		{0, 0, "a", "a"},
		{api.Open, 2, "_x61_x5f", "a_"},
		{5, api.OfLabel, "_x61_", "_x61_"},
	} {
		if got := escape.Back(c.proto, c.what, c.s); got != c.want {
			t.Errorf("Back(%d, %d, %q): %q", c.proto, c.what, c.s, got)
		}
	}
}

func TestP13_2BackAllShortStrings(t *testing.T) {
	held := func(s string) {
		names(func(proto, what int) {
			if got := escape.Back(proto, what, s); got != back(proto, what, s) {
				t.Errorf("Back(%d, %d, %q): %q", proto, what, s, got)
			}
		})
	}
	each([]string{"_x2e", "_x5f", "_x31", "_x23", "_x5c", "_x4", "_x", "x", "a", ".", "1"}, 3, held)
	drawn(held)
}

func TestP13_2All(t *testing.T) {
	got := escape.All(api.Open, api.OfLabel, "a.b", "", "c", "a.b", "9", "_x")
	if want := []string{"a_x2eb", "", "c", "a_x2eb", "_x39", "_x5fx"}; !slices.Equal(got, want) {
		t.Errorf("All: %q", got)
	}
	if got := escape.All(api.Line, api.OfFamily, "#"); !slices.Equal(got, []string{"_x23"}) {
		t.Errorf("All of one name: %q", got)
	}
	if got := escape.All(api.Line, api.OfLabel, "#"); !slices.Equal(got, []string{"#"}) {
		t.Errorf("All of one label's name: %q", got)
	}
	if got := escape.All(0, 0, "a", "_"); !slices.Equal(got, []string{"_x61", "_x5f"}) {
		t.Errorf("All of no format: %q", got)
	}
	for _, none := range [][]string{nil, {}} {
		if got := escape.All(api.Open, api.OfLabel, none...); len(got) != 0 {
			t.Errorf("All of none: %q", got)
		}
	}
}

func TestP13_2AllIsEscapeOfEach(t *testing.T) {
	var l []string
	all(func(s string) { l = append(l, s) })
	names(func(proto, what int) {
		got := escape.All(proto, what, l...)
		if len(got) != len(l) {
			t.Fatalf("All(%d, %d) of %d names: %d", proto, what, len(l), len(got))
		}
		for i, s := range l {
			if got[i] != escape.Escape(proto, what, s) {
				t.Errorf("All(%d, %d), %q: %q", proto, what, s, got[i])
			}
		}
	})
}

// All leaves its names and what lies behind them as they are, and answers new memory.
func TestP13_2AllIsNewMemory(t *testing.T) {
	whole := []string{"a", "b.c", "behind", "it"}
	was := slices.Clone(whole)
	first := escape.All(api.Open, api.OfLabel, whole[:2]...)
	second := escape.All(api.Open, api.OfLabel, whole[:2]...)
	if !slices.Equal(whole, was) {
		t.Errorf("the names are changed: %q", whole)
	}
	clear(first[:cap(first)])
	if !slices.Equal(whole, was) || !slices.Equal(second, []string{"a", "b_x2ec"}) {
		t.Errorf("memory is shared: %q, %q", whole, second)
	}
	clear(whole)
	if !slices.Equal(second, []string{"a", "b_x2ec"}) {
		t.Errorf("the names are kept: %q", second)
	}
}

func TestP13_3BackOfEscaped(t *testing.T) {
	held := func(s string) {
		turn := func(proto, what int) {
			e := escape.Escape(proto, what, s)
			if got := escape.Back(proto, what, e); got != s {
				t.Errorf("%d, %d: %q becomes %q, and that %q", proto, what, s, e, got)
			}
			if got, ok := escape.Undo(e); got != s || !ok {
				t.Errorf("%d, %d: %q becomes %q, and that %q, %v", proto, what, s, e, got, ok)
			}
		}
		names(turn)
		turn(0, 0)
		turn(api.Open, 2)
	}
	all(held)
	drawn(held)
}

func TestP13_3DifferentStayDifferent(t *testing.T) {
	turn := func(proto, what int) {
		from := map[string]string{}
		each([]string{"_", "x", "_x5f", "_x2e", "_x31", "5f", "1", ".", "#", "\\"}, 4, func(s string) {
			e := escape.Escape(proto, what, s)
			if was, has := from[e]; has && was != s {
				t.Errorf("%d, %d: %q and %q become %q", proto, what, was, s, e)
			}
			from[e] = s
		})
	}
	names(turn)
	turn(0, 0)
}
