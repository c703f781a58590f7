package lossy_test

import (
	"math"
	"math/rand"
	"slices"
	"strings"
	"testing"

	"polyglot/api"
	"polyglot/charset"
	"polyglot/lossy"
)

// formats and sorts are all there are.
var (
	formats = []int{api.Open, api.Line, api.Dots, api.Stat}
	sorts   = []int{api.OfFamily, api.OfLabel}
)

// strays are formats and sorts of which at least one does not exist.
var strays = [][2]int{
	{0, api.OfFamily}, {0, api.OfLabel}, {5, api.OfFamily}, {5, api.OfLabel}, {-1, api.OfFamily}, {-1, api.OfLabel},
	{api.Open, -1}, {api.Open, 2}, {api.Line, -1}, {api.Line, 2}, {api.Dots, -1}, {api.Dots, 2}, {api.Stat, -1}, {api.Stat, 2},
	{math.MaxInt, 0}, {math.MinInt, 0}, {api.Line, math.MaxInt}, {api.Line, math.MinInt}, {0, 2}, {5, -1}, {256 + api.Line, 256},
}

// one is the string of a byte.
func one(c byte) string { return string([]byte{c}) }

// replaced is the chapter's Name, read byte by byte.
func replaced(proto, what int, s string) string {
	name := ""
	for i := range len(s) {
		if charset.Legal(proto, what, s, i) {
			name += one(s[i])
		} else {
			name += "_"
		}
	}
	return name
}

// least is the chapter's Collide: it holds every name against every other one.
func least(proto, what int, l []string) (api.Clash, bool) {
	clash, found := api.Clash{}, false
	for _, a := range l {
		for _, b := range l {
			if a >= b || replaced(proto, what, a) != replaced(proto, what, b) {
				continue
			}
			if !found || a < clash.A || a == clash.A && b < clash.B {
				clash, found = api.Clash{A: a, B: b}, true
			}
		}
	}
	return clash, found
}

// names gives f each format and sort of name.
func names(f func(proto, what int)) {
	for _, proto := range formats {
		for _, what := range sorts {
			f(proto, what)
		}
	}
}

// each gives f all strings of some pieces, at most so many.
func each(pieces []string, most int, f func(s string)) {
	var grow func(s string, n int)
	grow = func(s string, n int) {
		f(s)
		if n == most {
			return
		}
		for _, p := range pieces {
			grow(s+p, n+1)
		}
	}
	grow("", 0)
}

// all gives f all short strings of bytes of every class.
func all(f func(s string)) {
	each([]string{"_", "x", "A", "0", ".", "#", ":", "-", " ", "\\", "\x00", "\x7f", "\xff"}, 4, f)
}

// drawn gives f lists of names, of which many become the same in one format or another.
func drawn(f func(l []string)) {
	r := rand.New(rand.NewSource(14))
	const some = "a__..--:#1 \\\xff"
	for range 4000 {
		l := make([]string, r.Intn(9))
		longest := 1 + r.Intn(4)
		for i := range l {
			s := make([]byte, r.Intn(longest+1))
			for j := range s {
				s[j] = some[r.Intn(len(some))]
			}
			l[i] = string(s)
		}
		f(l)
	}
}

// orders gives f a list in all of its orders.
func orders(l []string, f func(l []string)) {
	var turn func(n int)
	turn = func(n int) {
		if n == len(l) {
			f(slices.Clone(l))
			return
		}
		for i := n; i < len(l); i++ {
			l[n], l[i] = l[i], l[n]
			turn(n + 1)
			l[n], l[i] = l[i], l[n]
		}
	}
	turn(0)
}

// collides tells whether Collide answers a clash, or none if that is zero.
func collides(t *testing.T, proto, what int, want api.Clash, l ...string) {
	t.Helper()
	if got, ok := lossy.Collide(proto, what, l...); got != want || ok != (want != api.Clash{}) {
		t.Errorf("Collide(%d, %d) of %q: %q, %v; not %q", proto, what, l, got, ok, want)
	}
}

func TestP14_1Table(t *testing.T) {
	for _, c := range []struct {
		proto, what int
		s, want     string
	}{
		{api.Open, api.OfFamily, "", ""},
		{api.Open, api.OfFamily, "abc_9:", "abc_9:"},
		{api.Open, api.OfLabel, "abc_9:", "abc_9_"},
		{api.Open, api.OfFamily, "19", "_9"},
		{api.Open, api.OfFamily, ".19", "_19"},
		{api.Open, api.OfLabel, "a.b-c d", "a_b_c_d"},
		{api.Open, api.OfLabel, "\xc3\xa9", "__"},
		{api.Open, api.OfLabel, "\xff\x00\n\x7f", "____"},
		{api.Open, api.OfLabel, "_x2e", "_x2e"},
		{api.Line, api.OfFamily, "##", "_#"},
		{api.Line, api.OfFamily, "\\#", "_#"},
		{api.Line, api.OfLabel, "##", "##"},
		{api.Line, api.OfLabel, "a b,c=\"~\\", "a b,c=\"~_"},
		{api.Line, api.OfLabel, "\x1f \x7f~\x80", "_ _~_"},
		{api.Dots, api.OfFamily, "a.b.c", "a.b.c"},
		{api.Dots, api.OfFamily, ".a..b.", "_a._b_"},
		{api.Dots, api.OfFamily, "...", "___"},
		{api.Dots, api.OfFamily, "a...b", "a.__b"},
		{api.Dots, api.OfFamily, "a..", "a._"},
		{api.Dots, api.OfFamily, "a.\\.b", "a._.b"},
		{api.Dots, api.OfFamily, "a.\\", "a._"},
		{api.Dots, api.OfFamily, "#.a", "_.a"},
		{api.Dots, api.OfLabel, "a.b:c-", "a_b:c-"},
		{api.Stat, api.OfFamily, "..a:b|#", "..a_b__"},
		{api.Stat, api.OfLabel, "1.a:b@", "1.a_b_"},
	} {
		if got := lossy.Name(c.proto, c.what, c.s); got != c.want {
			t.Errorf("Name(%d, %d, %q): %q", c.proto, c.what, c.s, got)
		}
	}
}

func TestP14_1EveryByteEverywhere(t *testing.T) {
	names(func(proto, what int) {
		for c := range 256 {
			x := one(byte(c))
			for _, y := range []string{"a", "0", ".", "#", "_", ":", "\\", "\xff"} {
				for _, s := range []string{x, x + y, y + x, y + x + y, x + x, x + y + x} {
					if got := lossy.Name(proto, what, s); got != replaced(proto, what, s) {
						t.Errorf("Name(%d, %d, %q): %q", proto, what, s, got)
					}
				}
			}
		}
	})
}

// A name that is legal stays; what any other one becomes is legal, is as long, and
// becomes itself.
func TestP14_1AllShortStrings(t *testing.T) {
	all(func(s string) {
		names(func(proto, what int) {
			name := lossy.Name(proto, what, s)
			if name != replaced(proto, what, s) {
				t.Errorf("Name(%d, %d, %q): %q", proto, what, s, name)
			}
			if at := charset.Bad(proto, what, name); at >= 0 {
				t.Errorf("Name(%d, %d, %q): %q is not legal at %d", proto, what, s, name, at)
			}
			if legal := charset.Bad(proto, what, s) < 0; legal != (name == s) {
				t.Errorf("Name(%d, %d, %q): %q", proto, what, s, name)
			}
			if len(name) != len(s) || lossy.Name(proto, what, name) != name {
				t.Errorf("Name(%d, %d, %q): %q", proto, what, s, name)
			}
		})
	})
}

func TestP14_1NoSuchFormatOrSort(t *testing.T) {
	var s []byte
	for c := range 256 {
		s = append(s, byte(c))
	}
	for _, p := range strays {
		if got := lossy.Name(p[0], p[1], string(s)); got != strings.Repeat("_", 256) {
			t.Errorf("Name(%d, %d) of all bytes: %q", p[0], p[1], got)
		}
		if got := lossy.Name(p[0], p[1], ""); got != "" {
			t.Errorf("Name(%d, %d) of the empty string: %q", p[0], p[1], got)
		}
	}
}

// No call is bound by the length of a name.
func TestP14_1LongNames(t *testing.T) {
	const n = 5 * api.MaxText
	for _, c := range [][2]string{{"a", "a"}, {".", "_"}, {"b..", "b__"}, {"\xff", "_"}} {
		s, want := strings.Repeat(c[0], n), strings.Repeat(c[1], n)
		if lossy.Name(api.Open, api.OfLabel, s) != want {
			t.Errorf("Name of many %q", c[0])
		}
		if got := lossy.All(api.Open, api.OfLabel, s); len(got) != 1 || got[0] != want {
			t.Errorf("All of many %q", c[0])
		}
	}
	s := strings.Repeat("a", n)
	collides(t, api.Open, api.OfLabel, api.Clash{A: s + "-", B: s + "_"}, s+"_", s, s+"-", s+"b")
}

func TestP14_2Example(t *testing.T) {
	collides(t, api.Open, api.OfLabel, api.Clash{A: "a-b", B: "a.b"}, "a.b", "a-b")
}

func TestP14_2None(t *testing.T) {
	none := api.Clash{}
	names(func(proto, what int) {
		collides(t, proto, what, none)
		collides(t, proto, what, none, []string{}...)
		collides(t, proto, what, none, "")
		collides(t, proto, what, none, "", "")
		collides(t, proto, what, none, "", "_", "__")
		collides(t, proto, what, none, "a", "b", "c")
		collides(t, proto, what, none, "\xff", "\xff", "\xff")
		collides(t, proto, what, none, "\xff", "\xff\xff", "a\xff")
	})
	collides(t, api.Line, api.OfLabel, none, "a.b", "a-b", "a b", "a_b")
	collides(t, api.Dots, api.OfFamily, none, "a.b", "a-b", "a_b")
	collides(t, api.Stat, api.OfLabel, none, "a.b", "a-b", "a_b")
	collides(t, api.Open, api.OfFamily, none, "a:b", "a.b")
	collides(t, api.Line, api.OfLabel, none, "#a", "_a")
}

func TestP14_2Table(t *testing.T) {
	for _, c := range []struct {
		proto, what int
		want        api.Clash
		l           []string
	}{
		{api.Open, api.OfLabel, api.Clash{A: "a:b", B: "a_b"}, []string{"a_b", "a:b"}},
		{api.Open, api.OfFamily, api.Clash{A: "1a", B: "_a"}, []string{"1a", "_a", "a1"}},
		{api.Line, api.OfFamily, api.Clash{A: "#a", B: "_a"}, []string{"_a", "#a"}},
		{api.Line, api.OfLabel, api.Clash{A: "\n", B: "\\"}, []string{"\\", "_", "\n"}},
		{api.Dots, api.OfFamily, api.Clash{A: "a..b", B: "a._b"}, []string{"a._b", "a..b"}},
		{api.Dots, api.OfFamily, api.Clash{A: ".", B: "_"}, []string{"_", "."}},
		{api.Dots, api.OfLabel, api.Clash{A: "a.b", B: "a_b"}, []string{"a_b", "a-b", "a.b"}},
		{api.Stat, api.OfLabel, api.Clash{A: "a:b", B: "a|b"}, []string{"a|b", "a:b", "a.b"}},
		// of one Name: the least two, wherever they stand
		{api.Open, api.OfLabel, api.Clash{A: "a ", B: "a-"}, []string{"a_", "a.", "a-", "a "}},
		{api.Open, api.OfLabel, api.Clash{A: "a ", B: "a-"}, []string{"a ", "a ", "a-", "a-", "a."}},
		{api.Open, api.OfLabel, api.Clash{A: "a ", B: "a_"}, []string{"a ", "a_", "a ", "a_"}},
		// of several: the pair with the least A, though another one has the least B
		{api.Open, api.OfLabel, api.Clash{A: "a-", B: "a~"}, []string{"b-", "b.", "a~", "a-"}},
		{api.Open, api.OfLabel, api.Clash{A: ".x", B: "\xffx"}, []string{"_y", "/y", "\xffx", ".x", "az", "bz"}},
		{api.Open, api.OfLabel, api.Clash{A: "/y", B: "_y"}, []string{"_y", "/y", "\xffx", ".z", "az", "bz"}},
		// the least name of all clashes with none
		{api.Open, api.OfLabel, api.Clash{A: "b.", B: "b_"}, []string{"", "-", "a", "b_", "b."}},
		// bytes are compared, not scalars; a prefix is less
		{api.Open, api.OfLabel, api.Clash{A: "\x7f", B: "\x80"}, []string{"\xff", "\x80", "\x7f"}},
		{api.Open, api.OfLabel, api.Clash{A: "a-", B: "a."}, []string{"a-a", "a.a", "a.", "a-"}},
	} {
		orders(c.l, func(l []string) { collides(t, c.proto, c.what, c.want, l...) })
	}
}

func TestP14_2Drawn(t *testing.T) {
	drawn(func(l []string) {
		turn := func(proto, what int) {
			want, found := least(proto, what, l)
			if got, ok := lossy.Collide(proto, what, l...); got != want || ok != found {
				t.Errorf("Collide(%d, %d) of %q: %q, %v; not %q", proto, what, l, got, ok, want)
			}
		}
		names(turn)
		turn(0, api.OfLabel)
		turn(api.Open, 2)
	})
}

// Where there is no such format or sort, all names of one length become the same.
func TestP14_2NoSuchFormatOrSort(t *testing.T) {
	for _, p := range strays {
		collides(t, p[0], p[1], api.Clash{A: "ab", B: "cd"}, "x", "ef", "cd", "ab", "")
		collides(t, p[0], p[1], api.Clash{}, "x", "ab", "", "ab", "xyz")
		if got := lossy.All(p[0], p[1], "ab", "", "_"); !slices.Equal(got, []string{"__", "", "_"}) {
			t.Errorf("All(%d, %d): %q", p[0], p[1], got)
		}
	}
}

// Names are not held against each other two by two.
func TestP14_2ManyNames(t *testing.T) {
	var l []string
	for c := range 150000 {
		l = append(l, "n"+strings.Repeat("m", c%7)+string([]byte{'a' + byte(c/7%26), 'a' + byte(c/182%26), 'a' + byte(c/4732%26), 'a' + byte(c/123032%26)}))
	}
	collides(t, api.Open, api.OfLabel, api.Clash{}, l...)
	l = append(l, "z_", "y-", "z-", "y_")
	collides(t, api.Open, api.OfLabel, api.Clash{A: "y-", B: "y_"}, l...)
}

func TestP14_2All(t *testing.T) {
	got := lossy.All(api.Open, api.OfLabel, "b.c", "", "a", "b.c", "9", "_x", "b-c")
	if want := []string{"b_c", "", "a", "b_c", "_", "_x", "b_c"}; !slices.Equal(got, want) {
		t.Errorf("All: %q", got)
	}
	if got := lossy.All(api.Line, api.OfFamily, "#"); !slices.Equal(got, []string{"_"}) {
		t.Errorf("All of one name: %q", got)
	}
	if got := lossy.All(api.Line, api.OfLabel, "#"); !slices.Equal(got, []string{"#"}) {
		t.Errorf("All of one label's name: %q", got)
	}
	for _, none := range [][]string{nil, {}} {
		if got := lossy.All(api.Open, api.OfLabel, none...); len(got) != 0 {
			t.Errorf("All of none: %q", got)
		}
	}
}

func TestP14_2AllIsNameOfEach(t *testing.T) {
	var l []string
	all(func(s string) { l = append(l, s) })
	names(func(proto, what int) {
		got := lossy.All(proto, what, l...)
		if len(got) != len(l) {
			t.Fatalf("All(%d, %d) of %d names: %d", proto, what, len(l), len(got))
		}
		for i, s := range l {
			if got[i] != lossy.Name(proto, what, s) {
				t.Errorf("All(%d, %d), %q: %q", proto, what, s, got[i])
			}
		}
	})
}

// Both calls leave their names and what lies behind them as they are, and All answers
// new memory.
func TestP14_2NewMemory(t *testing.T) {
	whole := []string{"b.", "b.", "b-", "a", "behind", "it"}
	was := slices.Clone(whole)
	collides(t, api.Open, api.OfLabel, api.Clash{A: "b-", B: "b."}, whole[:4]...)
	first := lossy.All(api.Open, api.OfLabel, whole[:4]...)
	second := lossy.All(api.Open, api.OfLabel, whole[:4]...)
	if !slices.Equal(whole, was) {
		t.Errorf("the names are changed: %q", whole)
	}
	clear(first[:cap(first)])
	want := []string{"b_", "b_", "b_", "a"}
	if !slices.Equal(whole, was) || !slices.Equal(second, want) {
		t.Errorf("memory is shared: %q, %q", whole, second)
	}
	clear(whole)
	if !slices.Equal(second, want) {
		t.Errorf("the names are kept: %q", second)
	}
}

// Either a pair is reported that becomes one, or the names stay as many as they were.
func TestP14_3LossIsReported(t *testing.T) {
	count := func(l []string) int {
		l = slices.Sorted(slices.Values(l))
		return len(slices.Compact(l))
	}
	drawn(func(l []string) {
		names(func(proto, what int) {
			clash, ok := lossy.Collide(proto, what, l...)
			if lost := count(lossy.All(proto, what, l...)) < count(l); lost != ok {
				t.Errorf("%d, %d: of %q, %v is reported", proto, what, l, ok)
			}
			if !ok {
				return
			}
			if clash.A >= clash.B || !slices.Contains(l, clash.A) || !slices.Contains(l, clash.B) {
				t.Errorf("%d, %d: of %q, %q is no pair", proto, what, l, clash)
			}
			if lossy.Name(proto, what, clash.A) != lossy.Name(proto, what, clash.B) {
				t.Errorf("%d, %d: %q do not become one", proto, what, clash)
			}
		})
	})
}
