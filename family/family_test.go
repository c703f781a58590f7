package family_test

import (
	"math"
	"math/rand"
	"slices"
	"strings"
	"testing"
	"unicode/utf8"

	"polyglot/api"
	"polyglot/family"
	"polyglot/point"
)

var (
	five  = []int{api.Untyped, api.Gauge, api.Counter, api.Histogram, api.Summary}
	kinds = append(slices.Clone(five), -1, -2, -5, 5, 6, 256, 1<<32, 1<<32+1, math.MaxInt, math.MinInt)
	roles = []int{api.Plain, api.Bucket, api.Quantile, api.Count, api.Sum, -1, 5, 256, 1 << 32, math.MaxInt, math.MinInt}
)

// labels makes labels of names and values.
func labels(l ...string) []api.Label {
	var all []api.Label
	for i := 0; i < len(l); i += 2 {
		all = append(all, api.Label{Name: l[i], Value: l[i+1]})
	}
	return all
}

// of makes a family of points.
func of(kind int, name string, l ...api.Point) api.Family {
	return api.Family{Head: api.Head{Name: name, Kind: kind}, Points: l}
}

// at makes a point at a time.
func at(ms, value int64) api.Point {
	return api.Point{Timed: true, Time: ms, Value: api.Dec{M: value}}
}

// row makes n points in ascending order.
func row(n int) []api.Point {
	var all []api.Point
	for i := range n {
		all = append(all, at(int64(i), 7))
	}
	return all
}

// deep copies points and their labels.
func deep(l []api.Point) []api.Point {
	all := make([]api.Point, len(l))
	for i, p := range l {
		all[i] = p
		all[i].Labels = append([]api.Label{}, p.Labels...)
	}
	return all
}

// alike tells whether two points have the same fields, whatever their meaning.
func alike(p, q api.Point) bool {
	return slices.Equal(p.Labels, q.Labels) && p.Role == q.Role && p.Inf == q.Inf && p.Bound == q.Bound && p.Value == q.Value && p.Timed == q.Timed && p.Time == q.Time
}

// equal tells whether two families have the same fields, whatever their meaning.
func equal(f, g api.Family) bool {
	return f.Head == g.Head && slices.EqualFunc(f.Points, g.Points, alike)
}

// orders gives f the points in each order.
func orders(l []api.Point, f func(l []api.Point)) {
	l = slices.Clone(l)
	var swap func(from int)
	swap = func(from int) {
		if from == len(l) {
			f(slices.Clone(l))
			return
		}
		for i := from; i < len(l); i++ {
			l[from], l[i] = l[i], l[from]
			swap(from + 1)
			l[from], l[i] = l[i], l[from]
		}
	}
	swap(0)
}

// isName and isValue are what the chapter on labels says of a name and of a value.
func isName(s string) bool {
	control := strings.IndexFunc(s, func(r rune) bool { return r < 32 || r == 127 })
	return s != "" && len(s) <= 60 && utf8.ValidString(s) && control < 0
}

func isValue(s string) bool { return len(s) <= 60 && utf8.ValidString(s) }

// checkText holds Good of families of which one text is s.
func checkText(t *testing.T, s string) {
	t.Helper()
	for _, kind := range five {
		for _, l := range [][]api.Point{nil, {{Role: point.Roles(kind)[0]}}} {
			f := of(kind, s, l...)
			if got := family.Good(f); got != isName(s) {
				t.Errorf("with the name %q, of the kind %d: %v", s, kind, got)
			}
			f = of(kind, "a", l...)
			f.Unit = s
			if got := family.Good(f); got != isValue(s) {
				t.Errorf("with the unit %q, of the kind %d: %v", s, kind, got)
			}
			f = of(kind, "a", l...)
			f.Help = s
			if got := family.Good(f); got != isValue(s) {
				t.Errorf("with the help %q, of the kind %d: %v", s, kind, got)
			}
		}
	}
}

func TestP9_1GoodTexts(t *testing.T) {
	for b := range 256 {
		c := string([]byte{byte(b)})
		for _, s := range []string{c, "a" + c, c + "a", "\xe2\x82" + c} {
			checkText(t, s)
		}
	}
	for _, c := range []string{"a", "é", "€", "\n", "\xff"} {
		for _, n := range []int{0, 1, 2, 19, 20, 21, 29, 30, 31, 59, 60, 61, 62, 1000} {
			checkText(t, strings.Repeat(c, n))
			checkText(t, "x"+strings.Repeat(c, n))
		}
	}
	for _, s := range []string{"a b", "a_total", "\u0080", "\ud7ff", "\ufffd", "😀", "\xed\xa0\x80", "\xf4\x90\x80\x80", "\xc0\x80"} {
		checkText(t, s)
	}
}

// rolesOf is what the chapter on points says of the roles of a kind.
func rolesOf(kind int) []int {
	return map[int][]int{api.Untyped: {api.Plain}, api.Gauge: {api.Plain}, api.Counter: {api.Plain}, api.Histogram: {api.Bucket, api.Count, api.Sum}, api.Summary: {api.Quantile, api.Count, api.Sum}}[kind]
}

func TestP9_1GoodKinds(t *testing.T) {
	for _, kind := range kinds {
		is := slices.Contains(five, kind)
		if got := family.Good(of(kind, "a")); got != is {
			t.Errorf("of the kind %d, without points: %v", kind, got)
		}
		for _, role := range roles {
			want := is && slices.Contains(rolesOf(kind), role)
			if got := family.Good(of(kind, "a", api.Point{Role: role})); got != want {
				t.Errorf("of the kind %d, with the role %d: %v", kind, role, got)
			}
		}
	}
}

// A point that isn't valid is seen wherever it is, and also where the order is kept.
func TestP9_1GoodEachPoint(t *testing.T) {
	bad := []api.Point{{Value: api.Dec{M: 10, S: 1}}, {Value: api.Dec{M: math.MinInt64}}, {Role: api.Sum}, {Inf: true}, {Bound: api.Dec{M: 1}}, {Role: -1}, {Labels: labels("b", "", "a", "")}, {Labels: labels("", "")}, {Labels: labels("a", "\xff")}}
	for n := 1; n <= 6; n++ {
		for i := range n {
			for _, p := range bad {
				l := row(n)
				p.Timed, p.Time = true, int64(i)
				l[i] = p
				slices.SortFunc(l, point.Compare)
				if family.Good(of(api.Gauge, "a", l...)) {
					t.Errorf("with %+v", p)
				}
			}
			l := row(n)
			l[i].Value = api.Dec{M: -5, S: 1}
			if !family.Good(of(api.Gauge, "a", l...)) || !family.Good(of(api.Untyped, "a", l...)) {
				t.Errorf("a gauge with one value below 0 isn't good")
			}
			if family.Good(of(api.Counter, "a", l...)) {
				t.Errorf("a counter with one value below 0 is good")
			}
		}
	}
}

// ups has points in ascending order for some kinds, of each field that orders them.
func ups() map[int][]api.Point {
	return map[int][]api.Point{
		api.Gauge: {
			{},
			at(-1, 9),
			at(1, 5),
			{Labels: labels("a", "")},
			{Labels: labels("a", ""), Timed: true, Time: -3},
			{Labels: labels("a", "", "b", "")},
			{Labels: labels("a", "1"), Value: api.Dec{M: -2}},
		},
		api.Histogram: {
			{Role: api.Bucket, Bound: api.Dec{M: -25, S: 2}, Value: api.Dec{M: 3}},
			{Role: api.Bucket, Bound: api.Dec{M: 3, S: 1}},
			{Role: api.Bucket, Bound: api.Dec{M: 2}},
			{Role: api.Bucket, Inf: true},
			{Role: api.Count, Value: api.Dec{M: 1}},
			{Role: api.Sum, Value: api.Dec{M: -1}},
			{Role: api.Bucket, Inf: true, Timed: true},
		},
		api.Summary: {
			{Role: api.Quantile},
			{Role: api.Quantile, Bound: api.Dec{M: 5, S: 1}},
			{Role: api.Quantile, Bound: api.Dec{M: 99, S: 2}},
			{Role: api.Quantile, Bound: api.Dec{M: 1}},
			{Role: api.Count},
			{Role: api.Sum},
			{Role: api.Quantile, Labels: labels("le", "")},
		},
	}
}

// Of all orders of the points, one is the ascending one.
func TestP9_1GoodAndSortEachOrder(t *testing.T) {
	for kind, up := range ups() {
		want := of(kind, "a", up...)
		want.Unit, want.Help = "u", "h"
		orders(up, func(l []api.Point) {
			f := api.Family{Head: want.Head, Points: l}
			if got := family.Good(f); got != slices.EqualFunc(l, up, alike) {
				t.Fatalf("Good(%+v) = %v", f, got)
			}
			if got, ok := family.Sort(f); !ok || !equal(got, want) {
				t.Fatalf("Sort(%+v) = %+v, %v", f, got, ok)
			}
		})
	}
}

// Two points that differ in their values alone are one, wherever they are.
func TestP9_1TwoAlike(t *testing.T) {
	for kind, up := range ups() {
		for i := range up {
			for place := range len(up) + 1 {
				twin := up[i]
				twin.Value.M++
				l := slices.Insert(slices.Clone(up), place, twin)
				for _, f := range []api.Family{of(kind, "a", l...), of(kind, "a", up[i], twin), of(kind, "a", twin, up[i]), of(kind, "a", twin, twin)} {
					if family.Good(f) {
						t.Fatalf("%+v is good", f)
					}
					if got, ok := family.Sort(f); ok || got.Head != (api.Head{}) || len(got.Points) > 0 {
						t.Fatalf("Sort(%+v) = %+v, %v", f, got, ok)
					}
				}
			}
		}
	}
}

// draw makes a point of few values of each field, valid or not.
func draw(r *rand.Rand) api.Point {
	lists := [][]api.Label{nil, {}, labels("a", ""), labels("b", "", "a", ""), labels("", "\xff")}
	bounds := []api.Dec{{}, {M: 10, S: 1}, {M: 1, S: 19}, {M: 5, S: 1}, {M: -7}}
	pick := []int{-1, 0, 1, 2, 3, 4, 77}
	return api.Point{Labels: lists[r.Intn(len(lists))], Role: pick[r.Intn(len(pick))], Inf: r.Intn(2) == 0, Bound: bounds[r.Intn(len(bounds))], Value: api.Dec{M: int64(r.Intn(3)), S: r.Intn(2)}, Timed: r.Intn(2) == 0, Time: int64(r.Intn(3)) - 1}
}

// checkSort holds Sort of a family by what the chapter says: the points that were given,
// each greater than the one before it, or two of them that are one.
func checkSort(t *testing.T, f api.Family) bool {
	t.Helper()
	two := false
	for i := range f.Points {
		for j := range i {
			two = two || point.Compare(f.Points[i], f.Points[j]) == 0
		}
	}
	was := api.Family{Head: f.Head, Points: deep(f.Points)}
	got, ok := family.Sort(f)
	if !equal(f, was) {
		t.Fatalf("Sort made %+v of %+v", f, was)
	}
	if ok == two {
		t.Fatalf("Sort(%+v) = %+v, %v", f, got, ok)
	}
	if !ok {
		if got.Head != (api.Head{}) || len(got.Points) > 0 {
			t.Fatalf("Sort(%+v) = %+v, false", f, got)
		}
		return false
	}
	if got.Head != f.Head || len(got.Points) != len(f.Points) {
		t.Fatalf("Sort(%+v) = %+v", f, got)
	}
	for _, p := range f.Points {
		if !slices.ContainsFunc(got.Points, func(q api.Point) bool { return alike(p, q) }) {
			t.Fatalf("Sort(%+v) = %+v, without %+v", f, got, p)
		}
	}
	for i := 1; i < len(got.Points); i++ {
		if point.Compare(got.Points[i-1], got.Points[i]) != -1 {
			t.Fatalf("Sort(%+v) = %+v", f, got)
		}
	}
	return true
}

// Sort does not ask whether a family is valid.
func TestP9_1SortDrawn(t *testing.T) {
	r := rand.New(rand.NewSource(91))
	sorted := 0
	for range 4000 {
		f := api.Family{Head: api.Head{Name: []string{"", "a", "\xff"}[r.Intn(3)], Kind: kinds[r.Intn(len(kinds))], Unit: []string{"", "\xfe"}[r.Intn(2)], Help: strings.Repeat("h", r.Intn(70))}}
		for range r.Intn(40) {
			f.Points = append(f.Points, draw(r))
		}
		if checkSort(t, f) {
			sorted++
		}
	}
	if sorted < 500 || sorted > 3500 {
		t.Errorf("%d of the families drawn could be sorted", sorted)
	}
}

func TestP9_1SortMany(t *testing.T) {
	r := rand.New(rand.NewSource(92))
	l := row(3000)
	r.Shuffle(len(l), func(i, j int) { l[i], l[j] = l[j], l[i] })
	got, ok := family.Sort(of(api.Gauge, "a", l...))
	if !ok || !equal(got, of(api.Gauge, "a", row(3000)...)) || !family.Good(got) {
		t.Errorf("3000 points: %v", ok)
	}
	l[2999] = l[0]
	if _, ok := family.Sort(of(api.Gauge, "a", l...)); ok {
		t.Error("3000 points, the first and the last one alike")
	}
}

func TestP9_1SortOfNone(t *testing.T) {
	for _, l := range [][]api.Point{nil, {}} {
		f := of(9, "\n", l...)
		f.Unit, f.Help = "u", "h"
		if got, ok := family.Sort(f); !ok || !equal(got, f) {
			t.Errorf("Sort(%+v) = %+v, %v", f, got, ok)
		}
	}
	if got, ok := family.Sort(api.Family{}); !ok || !equal(got, api.Family{}) {
		t.Errorf("of the zero family: %+v, %v", got, ok)
	}
}

// spoil overwrites points, their labels, and the spare capacity behind both.
func spoil(l []api.Point) {
	l = l[:cap(l)]
	for i := range l {
		other := l[i].Labels[:cap(l[i].Labels)]
		for j := range other {
			other[j] = api.Label{Name: "spoiled", Value: "s"}
		}
		l[i] = api.Point{Role: 55}
	}
}

// given makes points of which two have one list, with labels and points behind the ends
// of the lists; and all of that memory.
func given() ([]api.Point, []api.Point, []api.Label) {
	names := labels("a", "1", "b", "2", "c", "3", "d", "4")
	all := []api.Point{at(3, 1), at(1, 2), at(2, 3), {}, {Role: api.Sum}, at(9, 9)}
	all[0].Labels, all[1].Labels, all[2].Labels, all[3].Labels = names[:2], names[:2], names[1:3], names[:0]
	return all[:4], all, names
}

// What is done with a result is seen neither in the argument nor in another result, and
// what is done with the argument isn't seen in a result.
func TestP9_1SortMemory(t *testing.T) {
	l, all, names := given()
	wasAll, wasNames := deep(all), slices.Clone(names)
	first, _ := family.Sort(of(api.Gauge, "a", l...))
	second, ok := family.Sort(of(api.Gauge, "a", l...))
	want := api.Family{Head: second.Head, Points: deep(second.Points)}
	if !ok || len(want.Points) != 4 {
		t.Fatalf("Sort = %+v, %v", second, ok)
	}
	spoil(append(first.Points, api.Point{Labels: labels("x", "y")}))
	for i := range first.Points {
		first.Points[i].Labels = append(first.Points[i].Labels, labels("x", "y")...)
	}
	spoil(first.Points)
	if !slices.EqualFunc(all, wasAll, alike) || !slices.Equal(names, wasNames) {
		t.Errorf("Sort shares memory: %+v, %q", all, names)
	}
	if !equal(second, want) {
		t.Errorf("two results of Sort share memory: %+v", second)
	}
	spoil(all)
	if !equal(second, want) {
		t.Errorf("Sort keeps its argument: %+v", second)
	}
}

// No two points of a result have one list of labels, even if those that were given had.
func TestP9_1SortLabelsApart(t *testing.T) {
	l, _, _ := given()
	got, _ := family.Sort(of(api.Gauge, "a", l...))
	for i := range got.Points {
		before := deep(got.Points)
		here := got.Points[i].Labels[:cap(got.Points[i].Labels)]
		for j := range here {
			here[j] = api.Label{Name: "spoiled"}
		}
		for k := range got.Points {
			if k != i && !alike(got.Points[k], before[k]) {
				t.Errorf("the points %d and %d share labels", i, k)
			}
		}
	}
}

// Good, Same and Series change nothing that they are given.
func TestP9_1AskedFamiliesStay(t *testing.T) {
	l, all, names := given()
	wasAll, wasNames := deep(all), slices.Clone(names)
	for _, kind := range kinds {
		family.Good(of(kind, "a", l...))
		family.Same(of(kind, "a", l...), of(kind, "a", all...))
		family.Same(of(kind, "a", l...), of(kind, "a", l...))
	}
	if !slices.EqualFunc(all, wasAll, alike) || !slices.Equal(names, wasNames) {
		t.Errorf("%+v, %q became %+v, %q", wasAll, wasNames, all, names)
	}
}

func TestP9_1SameHeads(t *testing.T) {
	var heads []api.Head
	for _, name := range []string{"", "a", "A", "a\xff"} {
		for _, kind := range []int{-1, 0, 1, 4, 5} {
			for _, unit := range []string{"", "a", "s"} {
				for _, help := range []string{"", "a", "h\n"} {
					heads = append(heads, api.Head{Name: name, Kind: kind, Unit: unit, Help: help})
				}
			}
		}
	}
	for i, h := range heads {
		for j, k := range heads {
			for _, n := range []int{0, 2} {
				if got := family.Same(api.Family{Head: h, Points: row(n)}, api.Family{Head: k, Points: row(n)}); got != (i == j) {
					t.Fatalf("with the heads %+v, %+v: %v", h, k, got)
				}
			}
		}
	}
}

// lists gives f all lists of some points, at most so many.
func lists(from []api.Point, most int, f func(l []api.Point, places []int)) {
	var grow func(l []api.Point, places []int)
	grow = func(l []api.Point, places []int) {
		f(l, places)
		if len(l) == most {
			return
		}
		for i, p := range from {
			grow(append(slices.Clone(l), p), append(slices.Clone(places), i))
		}
	}
	grow(nil, nil)
}

// The points are the same ones in the same order, or the families aren't the same,
// whether they are valid or not.
func TestP9_1SamePoints(t *testing.T) {
	from := []api.Point{{}, {Value: api.Dec{M: 1}}, at(1, 0), {Labels: labels("a", "1")}, {Role: 9}}
	var all [][]api.Point
	var marks [][]int
	lists(from, 3, func(l []api.Point, places []int) { all, marks = append(all, l), append(marks, places) })
	for i, a := range all {
		for j, b := range all {
			f, g := of(api.Gauge, "a", a...), of(api.Gauge, "a", b...)
			if got := family.Same(f, g); got != slices.Equal(marks[i], marks[j]) {
				t.Fatalf("Same(%+v, %+v) = %v", f, g, got)
			}
		}
	}
}

// One field of one point alone makes another family.
func TestP9_1SameEachField(t *testing.T) {
	base := api.Point{Labels: labels("a", "1"), Role: api.Bucket, Bound: api.Dec{M: 5, S: 1}, Value: api.Dec{M: 3}, Timed: true, Time: 8}
	for i, change := range []func(p *api.Point){
		func(p *api.Point) { p.Labels = labels("a", "2") },
		func(p *api.Point) { p.Labels = labels("b", "1") },
		func(p *api.Point) { p.Labels = nil },
		func(p *api.Point) { p.Role = api.Count },
		func(p *api.Point) { p.Inf = true },
		func(p *api.Point) { p.Bound = api.Dec{M: 51, S: 2} },
		func(p *api.Point) { p.Value = api.Dec{M: 3, S: 1} },
		func(p *api.Point) { p.Timed = false },
		func(p *api.Point) { p.Time = 9 },
	} {
		for n := 1; n <= 4; n++ {
			for place := range n {
				l := slices.Repeat([]api.Point{base}, n)
				m := deep(l)
				if !family.Same(of(api.Histogram, "a", l...), of(api.Histogram, "a", m...)) {
					t.Fatalf("%d points elsewhere in memory are others", n)
				}
				change(&m[place])
				f, g := of(api.Histogram, "a", l...), of(api.Histogram, "a", m...)
				if family.Same(f, g) || family.Same(g, f) {
					t.Errorf("change %d at %d of %d isn't seen", i, place, n)
				}
			}
		}
	}
}

func TestP9_1SameOfNone(t *testing.T) {
	f, g := of(api.Gauge, "a"), api.Family{Head: api.Head{Name: "a", Kind: api.Gauge}, Points: []api.Point{}}
	if !family.Same(f, g) || !family.Same(g, f) {
		t.Error("a family with an empty list is another one than a family with none")
	}
	f, g = of(api.Gauge, "a", api.Point{}), of(api.Gauge, "a", api.Point{Labels: []api.Label{}})
	if !family.Same(f, g) || !family.Same(g, f) {
		t.Error("a point with an empty list is another one than a point with none")
	}
	if !family.Same(api.Family{}, api.Family{}) {
		t.Error("the zero family is not itself")
	}
}

func TestP9_2Typed(t *testing.T) {
	want := map[int]string{0: "unknown", 1: "gauge", 2: "counter", 3: "histogram", 4: "summary"}
	for kind := -300; kind < 300; kind++ {
		if got := family.Typed(kind); got != want[kind] {
			t.Errorf("Typed(%d) = %q", kind, got)
		}
	}
	for _, kind := range kinds {
		if got := family.Typed(kind); got != want[kind] {
			t.Errorf("Typed(%d) = %q", kind, got)
		}
	}
}

// checkKind holds Kind of a word.
func checkKind(t *testing.T, word string) {
	t.Helper()
	kind, is := map[string]int{"unknown": 0, "gauge": 1, "counter": 2, "histogram": 3, "summary": 4}[word]
	if got, ok := family.Kind(word); got != kind || ok != is {
		t.Errorf("Kind(%q) = %d, %v", word, got, ok)
	}
}

// The words, and all that differs from one of them in a byte.
func TestP9_2Kind(t *testing.T) {
	for _, word := range []string{"unknown", "gauge", "counter", "histogram", "summary"} {
		checkKind(t, word)
		checkKind(t, strings.ToUpper(word))
		checkKind(t, word+word)
		for i := range len(word) + 1 {
			checkKind(t, word[:i])
			checkKind(t, word[i:])
			for b := range 256 {
				c := string([]byte{byte(b)})
				checkKind(t, word[:i]+c+word[i:])
				if i < len(word) {
					checkKind(t, word[:i]+c+word[i+1:])
				}
			}
		}
	}
	for _, word := range []string{"", "untyped", "info", "stateset", "gaugehistogram", "0", "1", "unknown\x00", strings.Repeat("gauge", 1000)} {
		checkKind(t, word)
	}
}

func TestP9_2Series(t *testing.T) {
	ends := map[[2]int]string{
		{api.Untyped, api.Plain}:    "",
		{api.Gauge, api.Plain}:      "",
		{api.Counter, api.Plain}:    "_total",
		{api.Histogram, api.Bucket}: "_bucket",
		{api.Histogram, api.Count}:  "_count",
		{api.Histogram, api.Sum}:    "_sum",
		{api.Summary, api.Quantile}: "",
		{api.Summary, api.Count}:    "_count",
		{api.Summary, api.Sum}:      "_sum",
	}
	for _, name := range []string{"a", "", "a_total", "\xff\n", strings.Repeat("x", 60), strings.Repeat("y", 5000)} {
		for _, kind := range kinds {
			for _, role := range roles {
				end, is := ends[[2]int{kind, role}]
				want := ""
				if is {
					want = name + end
				}
				h := api.Head{Name: name, Kind: kind, Unit: "s", Help: "h"}
				if got, ok := family.Series(h, role); got != want || ok != is {
					t.Errorf("Series(%+v, %d) = %q, %v", h, role, got, ok)
				}
			}
		}
	}
}

// Each kind has a word of its own.
func TestP9_3OneWordAKind(t *testing.T) {
	seen := map[string]int{}
	for _, kind := range five {
		word := family.Typed(kind)
		if other, has := seen[word]; has {
			t.Errorf("%q is the word of %d and of %d", word, other, kind)
		}
		seen[word] = kind
		if got, ok := family.Kind(word); got != kind || !ok {
			t.Errorf("Kind(%q) = %d, %v", word, got, ok)
		}
	}
}

// Points of roles that no one kind has are no valid family of any kind.
func TestP9_3OneKind(t *testing.T) {
	for set := range 1 << 5 {
		var l []api.Point
		for role := range 5 {
			if set>>role&1 == 1 {
				l = append(l, api.Point{Role: role})
			}
		}
		for _, kind := range kinds {
			want := slices.Contains(five, kind)
			for _, p := range l {
				want = want && slices.Contains(rolesOf(kind), p.Role)
			}
			if got := family.Good(of(kind, "a", l...)); got != want {
				t.Errorf("of the kind %d, with %+v: %v", kind, l, got)
			}
		}
	}
}

// The name of all points of a family begins with the family's, and points of different
// roles have different names. No name and no kind is lost when the points are sorted.
func TestP9_3OneName(t *testing.T) {
	for _, name := range []string{"a", "b_sum", "é"} {
		for _, kind := range five {
			seen := map[string]bool{}
			f := of(kind, name)
			for _, role := range rolesOf(kind) {
				s, ok := family.Series(f.Head, role)
				if !ok || !strings.HasPrefix(s, name) || seen[s] {
					t.Errorf("Series(%+v, %d) = %q, %v", f.Head, role, s, ok)
				}
				seen[s] = true
				f.Points = append(f.Points, api.Point{Role: role})
			}
			slices.Reverse(f.Points)
			got, ok := family.Sort(f)
			if !ok || got.Name != name || got.Kind != kind || !family.Good(got) {
				t.Errorf("Sort(%+v) = %+v, %v", f, got, ok)
			}
			for _, other := range five {
				if family.Same(got, api.Family{Head: api.Head{Name: name, Kind: other}, Points: got.Points}) != (other == kind) {
					t.Errorf("%+v is taken for one of the kind %d", got, other)
				}
			}
			if family.Same(got, api.Family{Head: api.Head{Name: name + "b", Kind: kind}, Points: got.Points}) {
				t.Errorf("%+v is taken for one of another name", got)
			}
		}
	}
}
