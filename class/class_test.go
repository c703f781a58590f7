package class_test

import (
	"math"
	"math/rand"
	"regexp"
	"slices"
	"strconv"
	"strings"
	"testing"
	"unicode/utf8"

	"polyglot/api"
	"polyglot/batch"
	"polyglot/charset"
	"polyglot/class"
)

// formats are all there are; strays are none.
var (
	formats = []int{api.Open, api.Line, api.Dots, api.Stat}
	strays  = []int{0, 5, -1, -4, 6, 256 + api.Open, 1 << 32, math.MaxInt, math.MinInt}
)

// letter is a format's in the short forms of these tests.
var letter = map[int]string{api.Open: "o", api.Line: "l", api.Dots: "d", api.Stat: "s"}

// shapes are the values of labels by the chapter's words, but for their lengths.
var shapes = map[int]*regexp.Regexp{
	api.Open: regexp.MustCompile(`^(?s:.*)$`),
	api.Line: regexp.MustCompile(`^[^\x00-\x1f\x7f\\]+$`),
	api.Dots: regexp.MustCompile(`^[!-:<-~]+$`),
	api.Stat: regexp.MustCompile(`^[!-+\--{}~]+$`),
}

// unit is that of an open family, by the chapter's words.
var unit = regexp.MustCompile(`^[A-Za-z0-9_:]*$`)

// value is the chapter's Value, read word by word.
func value(proto int, v string) bool {
	return shapes[proto] != nil && len(v) <= api.MaxValue && utf8.ValidString(v) && shapes[proto].MatchString(v)
}

// kinds is the chapter's Kinds.
func kinds(proto int) []int {
	return map[int][]int{
		api.Open: {api.Untyped, api.Gauge, api.Counter, api.Histogram, api.Summary},
		api.Line: {api.Untyped, api.Gauge, api.Counter},
		api.Dots: {api.Untyped},
		api.Stat: {api.Gauge, api.Counter},
	}[proto]
}

// may tells whether the format can express the family, read word by word.
func may(proto int, f api.Family) bool {
	ok := slices.Contains(kinds(proto), f.Kind) && charset.Is(proto, api.OfFamily, f.Name)
	for _, p := range f.Points {
		for _, x := range p.Labels {
			ok = ok && charset.Is(proto, api.OfLabel, x.Name) && value(proto, x.Value)
		}
		if proto == api.Dots {
			ok = ok && p.Timed && p.Time%1000 == 0
		}
		if proto == api.Stat {
			ok = ok && !p.Timed && p.Value.M >= 0
		}
	}
	if proto == api.Open {
		return ok && (f.Unit == "" || unit.MatchString(f.Unit) && strings.HasSuffix(f.Name, "_"+f.Unit))
	}
	return ok && f.Unit == "" && f.Help == "" && len(f.Points) >= 1
}

// why is the chapter's Why, read word by word.
func why(proto int, b api.Batch) (string, bool) {
	if batch.Check(b) != api.OK || !slices.Contains(formats, proto) {
		return "", false
	}
	for _, f := range b.Fams {
		if !may(proto, f) {
			return f.Name, false
		}
	}
	return "", true
}

// deep copies a batch.
func deep(b api.Batch) api.Batch {
	all := api.Batch{Tenant: b.Tenant}
	for _, f := range b.Fams {
		g := api.Family{Head: f.Head}
		for _, p := range f.Points {
			p.Labels = append([]api.Label(nil), p.Labels...)
			g.Points = append(g.Points, p)
		}
		all.Fams = append(all.Fams, g)
	}
	return all
}

// equal tells whether two batches have the same fields, whatever their meaning.
func equal(a, b api.Batch) bool {
	return a.Tenant == b.Tenant && slices.EqualFunc(a.Fams, b.Fams, func(f, g api.Family) bool {
		return f.Head == g.Head && slices.EqualFunc(f.Points, g.Points, func(p, q api.Point) bool {
			return slices.Equal(p.Labels, q.Labels) && p.Role == q.Role && p.Inf == q.Inf && p.Bound == q.Bound && p.Value == q.Value && p.Timed == q.Timed && p.Time == q.Time
		})
	})
}

// check holds Is and Why against the chapter, and their argument against what it was.
func check(t *testing.T, proto int, b api.Batch) bool {
	t.Helper()
	was := deep(b)
	wantName, want := why(proto, b)
	name, ok := class.Why(proto, b)
	if name != wantName || ok != want {
		t.Errorf("Why(%d) of %+v: %q, %v; not %q, %v", proto, b, name, ok, wantName, want)
	}
	if class.Is(proto, b) != want {
		t.Errorf("Is(%d) of %+v: %v", proto, b, !want)
	}
	if !equal(b, was) {
		t.Errorf("Is or Why(%d) changed %+v: %+v", proto, was, b)
	}
	return ok
}

// of makes a batch of the tenant t.
func of(fams ...api.Family) api.Batch { return api.Batch{Tenant: "t", Fams: fams} }

// fam makes a family.
func fam(kind int, name string, l ...api.Point) api.Family {
	return api.Family{Head: api.Head{Name: name, Kind: kind}, Points: l}
}

// named makes families of these names, each with a point, which Line can express if it
// can express the names.
func named(names ...string) []api.Family {
	var all []api.Family
	for _, s := range names {
		all = append(all, fam(api.Gauge, s, api.Point{}))
	}
	return all
}

// with gives a point labels, made of names and values.
func with(p api.Point, l ...string) api.Point {
	for i := 0; i < len(l); i += 2 {
		p.Labels = append(p.Labels, api.Label{Name: l[i], Value: l[i+1]})
	}
	return p
}

// at makes a point at a time.
func at(ms int64) api.Point { return api.Point{Timed: true, Time: ms} }

// worth makes a point of a value.
func worth(m int64, s int) api.Point { return api.Point{Value: api.Dec{M: m, S: s}} }

// headed gives a family a unit and a help.
func headed(f api.Family, unit, help string) api.Family {
	f.Unit, f.Help = unit, help
	return f
}

// can tells which formats can express a batch of the family: want has their letters. What
// cannot is told by the name of the family.
func can(t *testing.T, want string, f api.Family) {
	t.Helper()
	if e := batch.Check(of(f)); e != api.OK {
		t.Fatalf("%+v is not valid: %d", f, e)
	}
	for _, proto := range formats {
		ok := strings.Contains(want, letter[proto])
		if check(t, proto, of(f)) != ok {
			t.Errorf("Why(%d) of %+v: %v", proto, f, !ok)
		}
	}
}

func TestP16_1Kinds(t *testing.T) {
	for _, c := range []struct {
		proto int
		want  []int
	}{
		{api.Open, []int{0, 1, 2, 3, 4}}, {api.Line, []int{0, 1, 2}}, {api.Dots, []int{0}}, {api.Stat, []int{1, 2}},
	} {
		if got := class.Kinds(c.proto); !slices.Equal(got, c.want) {
			t.Errorf("Kinds(%d): %v, not %v", c.proto, got, c.want)
		}
	}
	for _, proto := range strays {
		if got := class.Kinds(proto); len(got) != 0 {
			t.Errorf("Kinds(%d): %v", proto, got)
		}
	}
}

// What is done with one list of kinds changes no other one, and no answer of Is.
func TestP16_1KindsNewMemory(t *testing.T) {
	for _, proto := range formats {
		before, spoilt := class.Kinds(proto), class.Kinds(proto)
		spoilt = spoilt[:cap(spoilt)]
		for i := range spoilt {
			spoilt[i] = 77
		}
		for _, got := range [][]int{before, class.Kinds(proto)} {
			if !slices.Equal(got, kinds(proto)) {
				t.Errorf("Kinds(%d): %v", proto, got)
			}
		}
		for kind := api.Untyped; kind <= api.Summary; kind++ {
			check(t, proto, of(fam(kind, "a")))
		}
	}
	check(t, api.Line, of(named("a")...))
}

// takes tells which formats take the value: want has their letters.
func takes(t *testing.T, want, v string) {
	t.Helper()
	for _, proto := range formats {
		if got := class.Value(proto, v); got != strings.Contains(want, letter[proto]) {
			t.Errorf("Value(%d, %q): %v", proto, v, got)
		}
	}
	for _, proto := range strays {
		if class.Value(proto, v) {
			t.Errorf("Value(%d, %q)", proto, v)
		}
	}
}

func TestP16_1Value(t *testing.T) {
	for v, want := range map[string]string{
		"": "o", "a": "olds", "0": "olds", "a b": "ol", " ": "ol", "a ": "ol", "!": "olds", "~": "olds", "!~": "olds",
		"\x1f": "o", "\x7f": "o", "\x00": "o", "\n": "o", "a\tb": "o", "a\x7f": "o", "\ra": "o",
		"\\": "ods", "a\\b": "ods", ";": "ols", "a;": "ols", ",": "old", ",a": "old", "|": "old", "a|b": "old", ";|": "ol", ",\\;": "o",
		"=": "olds", "a=b:#@\"'": "olds", "\u00e9": "ol", "\u0080": "ol", "a\u20ac": "ol", "\U0010ffff": "ol", "\ue000\ud7ff": "ol",
		"\xff": "", "a\x80": "", "\xc3": "", "\xc0\x80": "", "\xed\xa0\x80": "", "\xf4\x90\x80\x80": "", "a\xe2\x82": "",
	} {
		takes(t, want, v)
	}
}

// Each byte, by itself and among others, at both ends and between.
func TestP16_1ValueBytes(t *testing.T) {
	for c := range 256 {
		for _, around := range [][2]string{{"", ""}, {"a", ""}, {"", "a"}, {"a", "a"}, {strings.Repeat("a", 59), ""}, {"", strings.Repeat("a", 59)}} {
			v := around[0] + string([]byte{byte(c)}) + around[1]
			for _, proto := range formats {
				if class.Value(proto, v) != value(proto, v) {
					t.Errorf("Value(%d, %q): %v", proto, v, !value(proto, v))
				}
			}
		}
	}
}

func TestP16_1ValueLengths(t *testing.T) {
	for n := 1; n <= 60; n++ {
		takes(t, "olds", strings.Repeat("a", n))
	}
	for _, n := range []int{61, 62, 120, 256 + 60, 5000} {
		takes(t, "", strings.Repeat("a", n))
	}
	takes(t, "ol", strings.Repeat("é", 30))
	takes(t, "", strings.Repeat("é", 31))
	takes(t, "", strings.Repeat("é", 30)+"a")
	takes(t, "ol", strings.Repeat("\U0001f600", 15))
	takes(t, "", strings.Repeat("\U0001f600", 15)+"a")
	takes(t, "", strings.Repeat("a", 59)+"é")
}

func TestP16_1ValueDrawn(t *testing.T) {
	r := rand.New(rand.NewSource(161))
	pieces := []string{"a", "Z", "0", " ", "!", "~", ",", ";", "|", "\\", "é", "\U0001f600", "\x80", "\xff", "\x7f", "\x1f", "\x00"}
	seen := map[string]int{}
	for range 40000 {
		var v strings.Builder
		few := 1 + r.Intn(len(pieces))
		for range r.Intn(4) {
			v.WriteString(pieces[r.Intn(few)])
		}
		for range r.Intn(2) {
			v.WriteString(strings.Repeat("a", 50+r.Intn(12)))
		}
		for _, proto := range formats {
			want := value(proto, v.String())
			if class.Value(proto, v.String()) != want {
				t.Errorf("Value(%d, %q): %v", proto, v.String(), !want)
			}
			if want {
				seen[letter[proto]]++
			}
		}
	}
	for _, proto := range formats {
		if seen[letter[proto]] < 500 {
			t.Errorf("only %d values of %d", seen[letter[proto]], proto)
		}
	}
}

func TestP16_2Kinds(t *testing.T) {
	can(t, "ol", fam(api.Untyped, "a", api.Point{}))
	can(t, "old", fam(api.Untyped, "a", at(1000)))
	can(t, "ols", fam(api.Gauge, "a", api.Point{}))
	can(t, "ol", fam(api.Gauge, "a", at(1000)))
	can(t, "ols", fam(api.Counter, "a", api.Point{}))
	can(t, "ol", fam(api.Counter, "a", at(1000)))
	can(t, "o", fam(api.Histogram, "a", api.Point{Role: api.Bucket, Inf: true}))
	can(t, "o", fam(api.Histogram, "a", api.Point{Role: api.Sum}))
	can(t, "o", fam(api.Summary, "a", api.Point{Role: api.Count}))
	can(t, "o", fam(api.Summary, "a", api.Point{Role: api.Sum, Timed: true, Time: 1000}))
}

func TestP16_2Example(t *testing.T) {
	h := fam(api.Histogram, "h", api.Point{Role: api.Bucket, Inf: true})
	if name, ok := class.Why(api.Line, of(h)); class.Is(api.Line, of(h)) || ok || name != "h" {
		t.Errorf("Why of a Histogram: %q, %v", name, ok)
	}
}

func TestP16_2NamesOfFamilies(t *testing.T) {
	for name, want := range map[string]string{
		"a": "olds", "_": "olds", "a1": "olds", "1a": "lds", "a:b": "old", ":": "old", "a-b": "lds", "-": "lds", "a.b": "lds",
		".a": "ls", "a.": "ls", "a..b": "ls", "a b": "l", "#a": "", "a#": "l", "a,b": "l", "a=b": "l", "a|b": "l", "a;b": "l", "\"": "l",
		"a\\b": "", "é": "", "aé": "", strings.Repeat("a", 60): "olds",
	} {
		for proto := range letter {
			p, kind := api.Point{}, api.Gauge
			if proto == api.Dots {
				p, kind = at(1000), api.Untyped
			}
			if check(t, proto, of(fam(kind, name, p))) != strings.Contains(want, letter[proto]) {
				t.Errorf("Is(%d) of the name %q", proto, name)
			}
		}
	}
}

func TestP16_2NamesOfLabels(t *testing.T) {
	for name, want := range map[string]string{
		"a": "olds", "_": "olds", "a1": "olds", "1a": "lds", "a:b": "ld", ":": "ld", "a-b": "lds", "a.b": "ls", ".": "ls",
		"a b": "l", "#a": "l", "a#": "l", "a,b": "l", "a|b": "l", "a;b": "l", "a=b": "l", "a\\b": "", "é": "", strings.Repeat("a", 60): "olds",
	} {
		for proto := range letter {
			p, kind := api.Point{}, api.Gauge
			if proto == api.Dots {
				p, kind = at(1000), api.Untyped
			}
			if check(t, proto, of(fam(kind, "f", with(p, name, "v")))) != strings.Contains(want, letter[proto]) {
				t.Errorf("Is(%d) of the label %q", proto, name)
			}
		}
	}
}

// Every label of every point counts, the first and the last one.
func TestP16_2EachLabel(t *testing.T) {
	row := func(at, label int, name, v string) api.Family {
		var l []api.Point
		for i := range 3 {
			p := with(api.Point{}, "a", strconv.Itoa(i), "b", "v", "c", "v")
			if i == at {
				p.Labels[label].Name += name
				p.Labels[label].Value += v
			}
			l = append(l, p)
		}
		f, _ := batch.Sort(of(fam(api.Gauge, "f", l...)))
		return f.Fams[0]
	}
	for at := range 3 {
		for label := range 3 {
			can(t, "ols", row(at, label, "", ""))
			can(t, "ls", row(at, label, "-", ""))
			can(t, "ol", row(at, label, "", ","))
			can(t, "os", row(at, label, "", "\\"))
		}
	}
}

func TestP16_2ValuesOfLabels(t *testing.T) {
	for _, v := range []string{"", "v", "v w", "v,", "v;", "v|", "v\\", "v\n", "\x7f", "é", "=", strings.Repeat("v", 60), strings.Repeat("é", 30)} {
		for proto := range letter {
			p, kind := api.Point{}, api.Gauge
			if proto == api.Dots {
				p, kind = at(1000), api.Untyped
			}
			if check(t, proto, of(fam(kind, "f", with(p, "x", v)))) != class.Value(proto, v) {
				t.Errorf("Is(%d) of the value %q", proto, v)
			}
		}
	}
}

func TestP16_2Unit(t *testing.T) {
	gauge := func(name, unit string) api.Family { return headed(fam(api.Gauge, name, api.Point{}), unit, "") }
	long := strings.Repeat("s", 58)
	for _, c := range []struct{ want, name, unit string }{
		{"ols", "a_s", ""}, {"o", "a_s", "s"}, {"o", "_s", "s"}, {"o", "a_b_c", "c"}, {"o", "a_b_c", "b_c"}, {"", "a_b_c", "a_b_c"}, {"", "a_b_c", "b"}, {"", "a_b_c", "a"},
		{"", "as", "s"}, {"", "s", "s"}, {"", "a", "s"}, {"", "a_s_", "s"}, {"", "a_S", "s"}, {"", "a_s", "S"}, {"", "a_ss", "s"}, {"", "a_s", "ss"}, {"", "a_s", "_s"}, {"o", "a__s", "_s"}, {"o", "a__s", "s"}, {"", "a:s", "s"}, {"", "a:s", ":s"},
		{"o", "a_:", ":"}, {"o", "a_1", "1"}, {"o", "a_Zz9:_", "Zz9:_"}, {"o", "__", "_"}, {"", "_", "_"}, {"o", "a__", "_"},
		{"", "a_b-c", "b-c"}, {"", "a_s.t", "s.t"}, {"", "a_%", "%"}, {"", "a_ ", " "}, {"", "a_é", "é"}, {"", "a_b", "\n"}, {"", "a_b", "\x00"}, {"", "a_", "\\"}, {"", "a", "_a"},
		{"o", "a_" + long, long}, {"", "_" + long, "_" + long},
	} {
		can(t, c.want, gauge(c.name, c.unit))
	}
	can(t, "", headed(fam(api.Untyped, "a_s", at(1000)), "t", ""))
	can(t, "o", headed(fam(api.Untyped, "a_s", at(1000)), "s", ""))
	can(t, "o", headed(fam(api.Counter, "a_s"), "s", ""))
	can(t, "", headed(fam(api.Counter, "a_total"), "s_total", ""))
	can(t, "o", headed(fam(api.Histogram, "a_s"), "s", "h"))
}

func TestP16_2Help(t *testing.T) {
	for _, help := range []string{"h", " ", "help me\n\\\"", "é", "\x00", strings.Repeat("h", 60)} {
		can(t, "o", headed(fam(api.Gauge, "a", api.Point{}), "", help))
		can(t, "o", headed(fam(api.Untyped, "a", at(1000)), "", help))
		can(t, "o", headed(fam(api.Summary, "a"), "", help))
	}
	can(t, "old", headed(fam(api.Untyped, "a", at(1000)), "", ""))
}

func TestP16_2NoPoints(t *testing.T) {
	for kind := api.Untyped; kind <= api.Summary; kind++ {
		can(t, "o", fam(kind, "a"))
		f := fam(kind, "a")
		f.Points = []api.Point{}
		can(t, "o", f)
	}
	can(t, "old", fam(api.Untyped, "a", at(0)))
}

func TestP16_2Times(t *testing.T) {
	untyped := func(l ...api.Point) api.Family { return fam(api.Untyped, "a", l...) }
	most := int64(api.MaxTime - api.MaxTime%1000)
	for _, ms := range []int64{0, 1000, -1000, 2000, 60000, 1791000000000, most, -most} {
		can(t, "old", untyped(at(ms)))
	}
	for _, ms := range []int64{1, -1, 999, -999, 1001, 1500, 10, 100, api.MaxTime, -api.MaxTime} {
		can(t, "ol", untyped(at(ms)))
	}
	can(t, "ol", untyped(api.Point{}))
	can(t, "ol", untyped(api.Point{}, at(1000)))
	can(t, "ol", untyped(at(500), at(1000)))
	can(t, "ol", untyped(at(1000), at(1500)))
	can(t, "ol", untyped(at(1000), at(1001), at(2000)))
	can(t, "old", untyped(at(1000), at(2000), with(at(1000), "x", "v")))
	can(t, "ol", untyped(at(1000), at(2000), with(api.Point{}, "x", "v")))
}

func TestP16_2Stat(t *testing.T) {
	gauge := func(l ...api.Point) api.Family { return fam(api.Gauge, "a", l...) }
	can(t, "ols", gauge(worth(0, 0)))
	can(t, "ols", gauge(worth(math.MaxInt64, 0)))
	can(t, "ols", gauge(worth(1, 18)))
	can(t, "ol", gauge(worth(-1, 0)))
	can(t, "ol", gauge(worth(-1, 18)))
	can(t, "ol", gauge(worth(-math.MaxInt64, 0)))
	can(t, "ol", gauge(worth(-math.MaxInt64, 18)))
	can(t, "ol", gauge(worth(-1, 0), with(worth(1, 0), "x", "v")))
	can(t, "ol", gauge(worth(1, 0), with(worth(-1, 0), "x", "v")))
	can(t, "ols", gauge(worth(1, 0), with(worth(1, 0), "x", "v")))
	can(t, "ol", gauge(at(0)))
	can(t, "ol", gauge(worth(1, 0), at(1000)))
	can(t, "ol", gauge(at(1000), with(worth(1, 0), "x", "v")))
	// a negative value is no fault elsewhere
	minus := at(1000)
	minus.Value = api.Dec{M: -15, S: 1}
	can(t, "old", fam(api.Untyped, "a", minus))
	can(t, "o", fam(api.Histogram, "a", api.Point{Role: api.Sum, Value: api.Dec{M: -1}}))
}

// invalid are batches that are not valid, each for a reason of its own; but for it all
// formats but Dots could express them.
func invalid() []api.Batch {
	long := strings.Repeat("a", api.MaxName+1)
	gauge := func(l ...api.Point) api.Batch { return of(fam(api.Gauge, "a", l...)) }
	tenant := func(s string) api.Batch { return api.Batch{Tenant: s, Fams: named("a")} }
	return []api.Batch{
		{}, {Tenant: "T"}, tenant(""), tenant("t."), tenant(strings.Repeat("t", 17)),
		of(named("b", "a")...), of(named("a", "a")...), of(named("a", "c", "b")...), of(named("")...), of(named(long)...), of(named("\xff")...), of(named("a\n")...),
		of(fam(5, "a", api.Point{})), of(fam(-1, "a", api.Point{})),
		of(headed(fam(api.Gauge, "a", api.Point{}), "", long)), of(headed(fam(api.Gauge, "a_\xff"), "\xff", "")),
		gauge(api.Point{}, api.Point{}), gauge(at(2000), at(1000)), gauge(with(api.Point{}, "x", "v"), api.Point{}),
		gauge(with(api.Point{}, "b", "v", "a", "v")), gauge(with(api.Point{}, "a", "v", "a", "v")), gauge(with(api.Point{}, "", "v")), gauge(with(api.Point{}, "a", "\xff")), gauge(with(api.Point{}, "a", long)),
		gauge(with(api.Point{}, "1", "", "2", "", "3", "", "4", "", "5", "", "6", "", "7", "", "8", "", "9", "")),
		gauge(api.Point{Role: api.Sum}), gauge(api.Point{Inf: true}), gauge(api.Point{Bound: api.Dec{M: 1}}), gauge(worth(10, 1)), gauge(worth(1, 19)), gauge(worth(math.MinInt64, 0)),
		gauge(api.Point{Time: 1000}), gauge(at(api.MaxTime + 1)), gauge(at(-api.MaxTime - 1)),
		of(fam(api.Counter, "a", worth(-1, 0))),
		of(fam(api.Untyped, "a", at(1000), at(1000))), of(fam(api.Untyped, "a", at(2000), at(1000))), of(fam(api.Untyped, "a", at(1<<51))),
	}
}

// large are batches that are valid but for their size.
func large() []api.Batch {
	var fams []api.Family
	for i := range api.MaxFams + 1 {
		fams = append(fams, fam(api.Untyped, "f"+strconv.Itoa(100+i), at(0)))
	}
	f := fam(api.Untyped, "a")
	for i := range api.MaxPoints + 1 {
		f.Points = append(f.Points, at(int64(i)*1000))
	}
	return []api.Batch{of(fams...), of(f)}
}

func TestP16_2NotValid(t *testing.T) {
	for _, b := range slices.Concat(invalid(), large()) {
		if batch.Check(b) == api.OK {
			t.Errorf("%+v is valid", b)
		}
		for _, proto := range slices.Concat(formats, strays) {
			if name, ok := class.Why(proto, b); class.Is(proto, b) || name != "" || ok {
				t.Errorf("Why(%d) of %+v: %q, %v", proto, b, name, ok)
			}
		}
	}
}

// A batch that is not valid has no family that is to blame, even if one has a fault of the
// other sort besides.
func TestP16_2NotValidAndNotFit(t *testing.T) {
	for _, b := range []api.Batch{
		{Tenant: "", Fams: named("é")},
		{Tenant: "T", Fams: []api.Family{fam(api.Histogram, "a")}},
		of(append(named("é"), fam(5, "ê"))...),
		of(named("é", "a")...),
		of(fam(api.Histogram, "a"), fam(api.Counter, "b", worth(-1, 0))),
	} {
		for _, proto := range formats {
			if name, ok := class.Why(proto, b); class.Is(proto, b) || name != "" || ok {
				t.Errorf("Why(%d) of %+v: %q, %v", proto, b, name, ok)
			}
		}
	}
}

func TestP16_2NoSuchFormat(t *testing.T) {
	for _, proto := range strays {
		for _, b := range []api.Batch{of(), of(named("a")...), of(named("é")...), of(fam(api.Untyped, "a", at(1000))), of(fam(api.Summary, "a"))} {
			if name, ok := class.Why(proto, b); class.Is(proto, b) || name != "" || ok {
				t.Errorf("Why(%d) of %+v: %q, %v", proto, b, name, ok)
			}
		}
	}
}

func TestP16_2NoFamilies(t *testing.T) {
	for _, b := range []api.Batch{of(), {Tenant: "a-1"}, {Tenant: "t", Fams: []api.Family{}}} {
		for _, proto := range formats {
			if name, ok := class.Why(proto, b); !class.Is(proto, b) || name != "" || !ok {
				t.Errorf("Why(%d) of %+v: %q, %v", proto, b, name, ok)
			}
		}
	}
}

// A batch at both limits can be expressed.
func TestP16_2FullBatch(t *testing.T) {
	var timed, not []api.Family
	for i := range api.MaxFams {
		u, g := fam(api.Untyped, "f"+strconv.Itoa(100+i)), fam(api.Gauge, "f"+strconv.Itoa(100+i))
		for j := range api.MaxPoints / api.MaxFams {
			var l []string
			for k := range api.MaxLabels {
				l = append(l, "l"+strconv.Itoa(k), "v"+strconv.Itoa(j))
			}
			u.Points = append(u.Points, with(at(int64(j)*1000), l...))
			g.Points = append(g.Points, with(worth(int64(j), 0), l...))
		}
		timed, not = append(timed, u), append(not, g)
	}
	for _, proto := range formats {
		if got := check(t, proto, of(timed...)); got != (proto != api.Stat) {
			t.Errorf("Is(%d) of a full batch with times: %v", proto, got)
		}
		if got := check(t, proto, of(not...)); got != (proto != api.Dots) {
			t.Errorf("Is(%d) of a full batch: %v", proto, got)
		}
	}
	last := len(not) - 1
	not[last].Points[3].Labels[7].Value = "\x00\\,|"
	for _, proto := range []int{api.Line, api.Stat} {
		if name, ok := class.Why(proto, of(not...)); ok || name != not[last].Name {
			t.Errorf("Why(%d) of a full batch: %q, %v", proto, name, ok)
		}
	}
}

// The first family that does not fit is told, whatever is wrong with it and with others.
func TestP16_2First(t *testing.T) {
	for _, c := range []struct {
		proto int
		want  string
		l     []api.Family
	}{
		{api.Open, "b-", named("a", "b-", "c", "d-")},
		{api.Open, "a-", named("a-", "b", "c")},
		{api.Open, "c-", named("a", "b", "c-")},
		{api.Open, "#", named("#", "a")},
		{api.Open, "b", []api.Family{fam(api.Gauge, "a"), headed(fam(api.Gauge, "b"), "s", ""), fam(api.Gauge, "é")}},
		{api.Line, "b", []api.Family{fam(api.Gauge, "a", api.Point{}), fam(api.Summary, "b"), fam(api.Gauge, "c")}},
		{api.Line, "b", []api.Family{fam(api.Gauge, "a", api.Point{}), fam(api.Gauge, "b"), fam(api.Summary, "c")}},
		{api.Line, "b", []api.Family{fam(api.Gauge, "a", api.Point{}), fam(api.Gauge, "b", with(api.Point{}, "x", "")), fam(api.Gauge, "c", with(api.Point{}, "\\", "v"))}},
		{api.Line, "b", []api.Family{fam(api.Gauge, "a", api.Point{}), fam(api.Gauge, "b", with(api.Point{}, "\\", "v")), fam(api.Gauge, "c", with(api.Point{}, "x", ""))}},
		{api.Dots, "b", []api.Family{fam(api.Untyped, "a", at(0)), fam(api.Untyped, "b", at(0), at(1)), fam(api.Gauge, "c", at(0))}},
		{api.Dots, "a", []api.Family{fam(api.Untyped, "a", api.Point{}), fam(api.Untyped, "b", at(0))}},
		{api.Stat, "b", []api.Family{fam(api.Counter, "a", api.Point{}), fam(api.Gauge, "b", worth(-1, 0)), fam(api.Untyped, "c", api.Point{})}},
		{api.Stat, "b", []api.Family{fam(api.Counter, "a", api.Point{}), headed(fam(api.Gauge, "b", worth(1, 0)), "", "h"), fam(api.Gauge, "c", at(0))}},
		{api.Stat, "a b", named("a", "a b", "b:")},
	} {
		if name, ok := class.Why(c.proto, of(c.l...)); name != c.want || ok || class.Is(c.proto, of(c.l...)) {
			t.Errorf("Why(%d) of %+v: %q, %v; not %q", c.proto, c.l, name, ok, c.want)
		}
		check(t, c.proto, of(c.l...))
	}
}

// drawn gives f batches, most of them valid.
func drawn(seed int64, f func(b api.Batch)) {
	r := rand.New(rand.NewSource(seed))
	one := func(l ...string) string { return l[r.Intn(len(l))] }
	rare := func() bool { return r.Intn(6) == 0 }
	point := func(kind int) api.Point {
		p := api.Point{Value: api.Dec{M: int64(r.Intn(4)), S: 0}}
		if rare() {
			p.Value = api.Dec{M: -1, S: r.Intn(2)}
		}
		if r.Intn(2) == 0 {
			p.Timed, p.Time = true, int64(1000*r.Intn(3))
		}
		if rare() {
			p.Timed, p.Time = true, int64(r.Intn(2000))
		}
		if kind > api.Counter {
			p.Role = api.Count + r.Intn(2)
		}
		for _, name := range []string{"a", "b"} {
			if r.Intn(2) == 0 {
				s, v := name, "v"
				if rare() {
					s += one("-", ".", ":", " ", "\\", "é")
				}
				if rare() {
					v = one("", "v ", "v,", "v;", "v|", "v\\", "\n", "é")
				}
				p.Labels = append(p.Labels, api.Label{Name: s, Value: v})
			}
		}
		return p
	}
	for range 30000 {
		var fams []api.Family
		for _, name := range []string{"a", "b", "c"}[:r.Intn(4)] {
			g := fam(r.Intn(3), name)
			if rare() {
				g.Kind = 3 + r.Intn(2)
			}
			if rare() {
				g.Name += one("-", ".", ".x", ":", " ", "\\", "é")
			}
			if rare() {
				g.Unit = one("s", "t", "s-")
				g.Name += one("_s", "_t", "_s-", "s")
			}
			if rare() {
				g.Help = "h"
			}
			for range 1 + r.Intn(2) {
				if !rare() {
					g.Points = append(g.Points, point(g.Kind))
				}
			}
			fams = append(fams, g)
		}
		b := of(fams...)
		if sorted, ok := batch.Sort(b); ok {
			b = sorted
		}
		f(b)
	}
}

func TestP16_2Drawn(t *testing.T) {
	seen := map[string]int{}
	drawn(162, func(b api.Batch) {
		for _, proto := range formats {
			if check(t, proto, b) && len(b.Fams) > 0 {
				seen[letter[proto]]++
			}
		}
	})
	for _, proto := range formats {
		if seen[letter[proto]] < 100 {
			t.Errorf("only %d batches of %d", seen[letter[proto]], proto)
		}
	}
}

// Nothing but the batch counts: neither where it lies nor what has been asked before, and
// a batch can be expressed just if each family can by itself.
func TestP16_3BatchAlone(t *testing.T) {
	drawn(163, func(b api.Batch) {
		if batch.Check(b) != api.OK {
			return
		}
		for _, proto := range formats {
			all := true
			for _, f := range b.Fams {
				all = all && class.Is(proto, of(f))
			}
			spare := append(make([]api.Family, 0, len(b.Fams)+2), b.Fams...)
			named := api.Batch{Tenant: "other-1", Fams: spare}
			if class.Is(proto, b) != all || class.Is(proto, deep(b)) != all || class.Is(proto, named) != all {
				t.Errorf("Is(%d) of %+v is not that of its families: %v", proto, b, all)
			}
			if !equal(api.Batch{Fams: spare[:cap(spare)][len(b.Fams):]}, api.Batch{Fams: make([]api.Family, 2)}) {
				t.Errorf("Is(%d) wrote behind %+v", proto, b)
			}
		}
	})
}
