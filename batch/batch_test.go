package batch_test

import (
	"math"
	"math/rand"
	"regexp"
	"slices"
	"strconv"
	"strings"
	"testing"

	"polyglot/api"
	"polyglot/batch"
	"polyglot/family"
)

// labels makes labels of names and values.
func labels(l ...string) []api.Label {
	var all []api.Label
	for i := 0; i < len(l); i += 2 {
		all = append(all, api.Label{Name: l[i], Value: l[i+1]})
	}
	return all
}

// gauge makes a gauge of points.
func gauge(name string, l ...api.Point) api.Family {
	return api.Family{Head: api.Head{Name: name, Kind: api.Gauge}, Points: l}
}

// at makes a point at a time.
func at(ms, value int64) api.Point {
	return api.Point{Timed: true, Time: ms, Value: api.Dec{M: value}}
}

// row makes n points in ascending order.
func row(n int) []api.Point {
	var all []api.Point
	for i := range n {
		all = append(all, at(int64(i), 7))
	}
	return all
}

// named makes gauges of these names, each with a point.
func named(names ...string) []api.Family {
	var all []api.Family
	for _, name := range names {
		all = append(all, gauge(name, at(5, 1)))
	}
	return all
}

// sized makes families in ascending order with so many points.
func sized(points ...int) []api.Family {
	var all []api.Family
	for i, n := range points {
		all = append(all, gauge("f"+strconv.Itoa(1000+i), row(n)...))
	}
	return all
}

// of makes a batch.
func of(tenant string, fams ...api.Family) api.Batch {
	return api.Batch{Tenant: tenant, Fams: fams}
}

// deep copies families, their points and their labels.
func deep(l []api.Family) []api.Family {
	all := make([]api.Family, len(l))
	for i, f := range l {
		all[i] = api.Family{Head: f.Head, Points: make([]api.Point, len(f.Points))}
		for j, p := range f.Points {
			all[i].Points[j] = p
			all[i].Points[j].Labels = append([]api.Label{}, p.Labels...)
		}
	}
	return all
}

// alike tells whether two points have the same fields, whatever their meaning.
func alike(p, q api.Point) bool {
	return slices.Equal(p.Labels, q.Labels) && p.Role == q.Role && p.Inf == q.Inf && p.Bound == q.Bound && p.Value == q.Value && p.Timed == q.Timed && p.Time == q.Time
}

// even tells whether two families have the same fields, whatever their meaning.
func even(f, g api.Family) bool {
	return f.Head == g.Head && slices.EqualFunc(f.Points, g.Points, alike)
}

// equal tells whether two batches have the same fields, whatever their meaning.
func equal(a, b api.Batch) bool {
	return a.Tenant == b.Tenant && slices.EqualFunc(a.Fams, b.Fams, even)
}

// none tells whether b is the zero batch.
func none(b api.Batch) bool { return b.Tenant == "" && len(b.Fams) == 0 }

// orders gives f the elements in each order.
func orders[T any](l []T, f func(l []T)) {
	l = slices.Clone(l)
	var swap func(from int)
	swap = func(from int) {
		if from == len(l) {
			f(slices.Clone(l))
			return
		}
		for i := from; i < len(l); i++ {
			l[from], l[i] = l[i], l[from]
			swap(from + 1)
			l[from], l[i] = l[i], l[from]
		}
	}
	swap(0)
}

// bad has families that aren't valid, all of one name.
func bad(name string) []api.Family {
	all := []api.Family{
		gauge(name, at(1, 0), at(0, 0)),
		gauge(name, at(1, 0), at(1, 1)),
		gauge(name, api.Point{Role: api.Sum}),
		gauge(name, api.Point{Value: api.Dec{M: 10, S: 1}}),
		gauge(name, api.Point{Labels: labels("b", "", "a", "")}),
		gauge(name, api.Point{Time: 1}),
	}
	for _, h := range []api.Head{
		{Name: name, Kind: -1},
		{Name: name, Kind: 5},
		{Name: name, Unit: "\xff"},
		{Name: name, Help: strings.Repeat("h", 61)},
	} {
		all = append(all, api.Family{Head: h})
	}
	negative := gauge(name, at(0, -1))
	negative.Kind = api.Counter
	return append(all, negative)
}

// tenants is what the chapter says of the name of a tenant.
var tenants = regexp.MustCompile(`\A[a-z0-9-]{1,16}\z`)

// isTenant tells whether s is such a name.
func isTenant(s string) bool { return tenants.MatchString(s) }

// checkTenant holds Tenant of s, and Check and Of of a batch of that tenant.
func checkTenant(t *testing.T, s string) {
	t.Helper()
	is := isTenant(s)
	if got := batch.Tenant(s); got != is {
		t.Errorf("Tenant(%q) = %v", s, got)
	}
	want := api.OK
	if !is {
		want = api.ErrForm
	}
	for _, l := range [][]api.Family{nil, named("a", "b")} {
		if got := batch.Check(of(s, l...)); got != want {
			t.Errorf("Check of %d families of the tenant %q: %d", len(l), s, got)
		}
		if got, ok := batch.Of(s, l...); ok != is || ok && !equal(got, of(s, l...)) || !ok && !none(got) {
			t.Errorf("Of %d families of the tenant %q: %+v, %v", len(l), s, got, ok)
		}
	}
}

// Each byte, wherever it is.
func TestP10_1TenantBytes(t *testing.T) {
	for b := range 256 {
		c := string([]byte{byte(b)})
		for _, s := range []string{c, c + "a", "a" + c, "a" + c + "0", "-" + c + "-", strings.Repeat("a", 15) + c, c + strings.Repeat("z", 15), strings.Repeat(c, 16), strings.Repeat(c, 17)} {
			checkTenant(t, s)
		}
	}
}

func TestP10_1TenantLengths(t *testing.T) {
	for _, c := range []string{"a", "z", "0", "9", "-", "é", "€"} {
		for _, n := range []int{0, 1, 2, 5, 7, 8, 9, 15, 16, 17, 18, 32, 256, 272, 65552} {
			checkTenant(t, strings.Repeat(c, n))
		}
	}
	for _, s := range []string{"the-tenant-no-16", "the-tenant-no-017", "Tenant", "a_b", "a.b", "a b", " a", "a ", "a\n", "ａ", "\u0661"} {
		checkTenant(t, s)
	}
}

func TestP10_1CheckEachBadFamily(t *testing.T) {
	for _, f := range bad("e") {
		for n := 1; n <= 5; n++ {
			for place := range n {
				var l []api.Family
				for i := range n {
					l = append(l, gauge(string(rune('e'-place+i)), row(2)...))
				}
				if got := batch.Check(of("t", l...)); got != api.OK {
					t.Fatalf("%d families: %d", n, got)
				}
				l[place] = f
				if got := batch.Check(of("t", l...)); got != api.ErrForm {
					t.Errorf("%d families with %+v at %d: %d", n, f, place, got)
				}
			}
		}
	}
	for _, name := range []string{"", "\n", "\xff", strings.Repeat("a", 61)} {
		if got := batch.Check(of("t", gauge(name))); got != api.ErrForm {
			t.Errorf("a family of the name %q: %d", name, got)
		}
	}
}

// Of all orders of the families, one is the ascending one, by the bytes of their names.
func TestP10_1CheckEachOrder(t *testing.T) {
	names := []string{"-", "A", "Z", "a", "a b", "aa", "ab", "é"}
	right := 0
	orders(names, func(l []string) {
		want := api.ErrForm
		if slices.Equal(l, names) {
			want = api.OK
			right++
		}
		if got := batch.Check(of("t", named(l...)...)); got != want {
			t.Fatalf("families named %q: %d", l, got)
		}
	})
	if right != 1 {
		t.Errorf("%d ascending orders", right)
	}
}

// The order is that of the names: not of the kinds, the units, the helps or the points.
func TestP10_1CheckOrderOfNamesAlone(t *testing.T) {
	a := api.Family{Head: api.Head{Name: "a", Kind: api.Summary, Unit: "z", Help: "z"}, Points: []api.Point{{Role: api.Sum}}}
	b := api.Family{Head: api.Head{Name: "b", Kind: api.Untyped}}
	if got := batch.Check(of("t", a, b)); got != api.OK {
		t.Errorf("a, b: %d", got)
	}
	if got := batch.Check(of("t", b, a)); got != api.ErrForm {
		t.Errorf("b, a: %d", got)
	}
	b.Name = "a"
	if got := batch.Check(of("t", b, a)); got != api.ErrForm {
		t.Errorf("two of one name, other else: %d", got)
	}
	if got := batch.Check(of("t", a, b)); got != api.ErrForm {
		t.Errorf("two of one name, other else: %d", got)
	}
}

// One name twice isn't ascending, wherever it is.
func TestP10_1CheckTwice(t *testing.T) {
	for n := 2; n <= 6; n++ {
		for place := range n - 1 {
			l := sized(slices.Repeat([]int{1}, n)...)
			l[place+1].Name = l[place].Name
			if got := batch.Check(of("t", l...)); got != api.ErrForm {
				t.Errorf("%d families, those at %d and %d of one name: %d", n, place, place+1, got)
			}
			l = sized(slices.Repeat([]int{1}, n)...)
			l[place], l[place+1] = l[place+1], l[place]
			if got := batch.Check(of("t", l...)); got != api.ErrForm {
				t.Errorf("%d families, those at %d and %d swapped: %d", n, place, place+1, got)
			}
		}
	}
}

// spread makes numbers of points of n families, total in all.
func spread(r *rand.Rand, n, total int) []int {
	all := make([]int, n)
	for range total {
		all[r.Intn(n)]++
	}
	return all
}

// The limits, around which all numbers are tried, and points wherever they are.
func TestP10_1CheckLimits(t *testing.T) {
	r := rand.New(rand.NewSource(101))
	for _, n := range []int{1, 2, 3, 15, 29, 30, 31, 32, 60, 119, 120, 121, 300} {
		for _, total := range []int{0, 1, 29, 30, 31, 60, 118, 119, 120, 121, 122, 240, 1000} {
			for _, points := range [][]int{spread(r, n, total), append([]int{total}, make([]int, n-1)...), append(make([]int, n-1), total)} {
				b := of("t", sized(points...)...)
				want := api.OK
				if n > 30 || total > 120 {
					want = api.ErrLimit
				}
				if got := batch.Check(b); got != want {
					t.Fatalf("%d families, %d points: %d", n, total, got)
				}
				if got, ok := batch.Of("t", b.Fams...); ok != (want == api.OK) || ok && !equal(got, b) || !ok && !none(got) {
					t.Fatalf("Of %d families, %d points: %v", n, total, ok)
				}
				if got := batch.Points(b); got != total {
					t.Fatalf("Points of %d families, %d points: %d", n, total, got)
				}
			}
		}
	}
}

// ErrForm is named first: it is seen whatever the limits, also behind them.
func TestP10_1CheckFormAheadOfLimit(t *testing.T) {
	for _, points := range [][]int{slices.Repeat([]int{0}, 31), {121}, {0, 60, 61, 0}, slices.Repeat([]int{5}, 40)} {
		l := sized(points...)
		if got := batch.Check(of("t", l...)); got != api.ErrLimit {
			t.Errorf("%v points: %d", points, got)
		}
		for _, tenant := range []string{"", "T", "a_b", strings.Repeat("a", 17)} {
			if got := batch.Check(of(tenant, l...)); got != api.ErrForm {
				t.Errorf("%v points of the tenant %q: %d", points, tenant, got)
			}
		}
		for _, f := range bad("g") {
			if got := batch.Check(of("t", append(slices.Clone(l), f)...)); got != api.ErrForm {
				t.Errorf("%v points, and %+v: %d", points, f, got)
			}
		}
		for _, f := range []api.Family{gauge("a"), l[len(l)-1]} {
			if got := batch.Check(of("t", append(slices.Clone(l), f)...)); got != api.ErrForm {
				t.Errorf("%v points, and one more of the name %q: %d", points, f.Name, got)
			}
		}
		if got := batch.Check(of("t", append(slices.Clone(l), gauge("g"))...)); got != api.ErrLimit {
			t.Errorf("%v points, and one more family: %d", points, got)
		}
	}
}

// shapes has families of all kinds, in ascending order of their names, with points in order.
func shapes() []api.Family {
	return []api.Family{
		{Head: api.Head{Name: "c", Kind: api.Counter, Unit: "s", Help: "how\nmany"}, Points: []api.Point{{Value: api.Dec{M: 5, S: 1}}, at(-4, 2), {Labels: labels("a", "1", "b", "")}}},
		{Head: api.Head{Name: "g", Kind: api.Gauge}, Points: []api.Point{at(1, -1), at(2, 1)}},
		{Head: api.Head{Name: "h", Kind: api.Histogram}, Points: []api.Point{{Role: api.Bucket, Bound: api.Dec{M: 1}}, {Role: api.Bucket, Inf: true}, {Role: api.Count}, {Role: api.Sum}}},
		{Head: api.Head{Name: "s", Kind: api.Summary}, Points: []api.Point{{Role: api.Quantile, Bound: api.Dec{M: 5, S: 1}}, {Role: api.Sum}}},
		{Head: api.Head{Name: "u", Unit: "bytes"}},
	}
}

// shuffled returns the families with their points in another order.
func shuffled(r *rand.Rand, l []api.Family) []api.Family {
	all := deep(l)
	for _, f := range all {
		r.Shuffle(len(f.Points), func(i, j int) { f.Points[i], f.Points[j] = f.Points[j], f.Points[i] })
	}
	return all
}

func TestP10_2SortEachOrder(t *testing.T) {
	r := rand.New(rand.NewSource(102))
	for _, tenant := range []string{"t", "", "No tenant!", strings.Repeat("a", 40)} {
		want := of(tenant, shapes()...)
		orders(shapes(), func(l []api.Family) {
			b := of(tenant, shuffled(r, l)...)
			was := of(tenant, deep(b.Fams)...)
			got, ok := batch.Sort(b)
			if !ok || !equal(got, want) {
				t.Fatalf("Sort(%+v) = %+v, %v", b, got, ok)
			}
			if !equal(b, was) {
				t.Fatalf("Sort made %+v of %+v", b, was)
			}
			got, ok = batch.Of(tenant, b.Fams...)
			if ok != (tenant == "t") || ok && !equal(got, want) || !ok && !none(got) {
				t.Fatalf("Of(%+v) = %+v, %v", b, got, ok)
			}
			if !equal(b, was) {
				t.Fatalf("Of made %+v of %+v", b, was)
			}
		})
	}
}

// Names are ordered byte by byte, and a proper prefix is less.
func TestP10_2SortNames(t *testing.T) {
	names := []string{"", "\x00", "-", "A", "Z", "a", "a\x00", "a b", "aa", "ab", "b", "\x7f", "é", "\xff"}
	r := rand.New(rand.NewSource(103))
	for range 500 {
		l := slices.Clone(names)
		r.Shuffle(len(l), func(i, j int) { l[i], l[j] = l[j], l[i] })
		l = l[:r.Intn(len(l)+1)]
		got, ok := batch.Sort(of("t", named(l...)...))
		slices.Sort(l)
		if !ok || !equal(got, of("t", named(l...)...)) {
			t.Fatalf("families named %q, sorted: %+v, %v", l, got, ok)
		}
	}
}

// A family that can't be sorted, and two of one name, are seen wherever they are.
func TestP10_2SortRefuses(t *testing.T) {
	for n := 1; n <= 5; n++ {
		for place := range n {
			l := sized(slices.Repeat([]int{2}, n)...)
			l[place].Points = []api.Point{at(1, 0), at(0, 0), at(1, 9)}
			refuse(t, of("t", l...))
			slices.Reverse(l)
			refuse(t, of("t", l...))
			for other := range place {
				l = sized(slices.Repeat([]int{2}, n)...)
				l[place].Name = l[other].Name
				l[place].Kind, l[place].Help = api.Untyped, "another one"
				refuse(t, of("t", l...))
				slices.Reverse(l)
				refuse(t, of("t", l...))
			}
		}
	}
	refuse(t, of("t", gauge(""), gauge("")))
	refuse(t, of("t", gauge("\xff"), gauge("a"), gauge("\xff")))
}

// refuse holds that Sort and Of answer false for b.
func refuse(t *testing.T, b api.Batch) {
	t.Helper()
	if got, ok := batch.Sort(b); ok || !none(got) {
		t.Errorf("Sort(%+v) = %+v, %v", b, got, ok)
	}
	if got, ok := batch.Of(b.Tenant, b.Fams...); ok || !none(got) {
		t.Errorf("Of(%+v) = %+v, %v", b, got, ok)
	}
}

// Sort does not ask whether a batch is valid; Of does.
func TestP10_2SortOfWhatIsNotValid(t *testing.T) {
	for _, f := range bad("e") {
		want, is := family.Sort(f)
		for _, l := range [][]api.Family{{f}, {gauge("a"), f}, {f, gauge("a")}, {gauge("f"), f, gauge("a")}} {
			got, ok := batch.Sort(of("t", l...))
			if ok != is || !ok && !none(got) {
				t.Fatalf("Sort of %+v = %+v, %v", l, got, ok)
			}
			if ok && (len(got.Fams) != len(l) || !slices.ContainsFunc(got.Fams, func(g api.Family) bool { return even(g, want) })) {
				t.Fatalf("Sort of %+v = %+v", l, got)
			}
			valid := is && family.Good(want)
			if got, ok := batch.Of("t", l...); ok != valid || !ok && !none(got) {
				t.Fatalf("Of %+v = %+v, %v", l, got, ok)
			}
		}
	}
	many := sized(slices.Repeat([]int{9}, 200)...)
	want := of("T", deep(many)...)
	slices.Reverse(many)
	if got, ok := batch.Sort(of("T", many...)); !ok || !equal(got, want) {
		t.Errorf("200 families: %v", ok)
	}
}

// What can't be Good as it was given is good in an Of, which sorts first.
func TestP10_2OfSortsFirst(t *testing.T) {
	l := []api.Family{gauge("b", at(2, 1), at(1, 2)), gauge("a", at(9, 1), at(-9, 1))}
	if batch.Check(of("t", l...)) != api.ErrForm {
		t.Error("Check does not see the order")
	}
	want := of("t", gauge("a", at(-9, 1), at(9, 1)), gauge("b", at(1, 2), at(2, 1)))
	if got, ok := batch.Of("t", l[0], l[1]); !ok || !equal(got, want) {
		t.Errorf("Of = %+v, %v", got, ok)
	}
	if got, ok := batch.Of("t", l...); !ok || batch.Check(got) != api.OK {
		t.Errorf("Of = %+v, %v", got, ok)
	}
}

func TestP10_2OfNone(t *testing.T) {
	if got, ok := batch.Of("t"); !ok || !equal(got, of("t")) {
		t.Errorf("Of none = %+v, %v", got, ok)
	}
	if got, ok := batch.Of("t", []api.Family{}...); !ok || !equal(got, of("t")) {
		t.Errorf("Of an empty list = %+v, %v", got, ok)
	}
	for _, tenant := range []string{"", "T"} {
		if got, ok := batch.Of(tenant); ok || !none(got) {
			t.Errorf("Of the tenant %q = %+v, %v", tenant, got, ok)
		}
	}
	for _, l := range [][]api.Family{nil, {}} {
		if got, ok := batch.Sort(of("T", l...)); !ok || !equal(got, of("T")) {
			t.Errorf("Sort of none = %+v, %v", got, ok)
		}
	}
}

// lists gives f all lists of at most so many of n elements, by their places.
func lists(n, most int, f func(places []int)) {
	var grow func(places []int)
	grow = func(places []int) {
		f(places)
		for i := 0; i < n && len(places) < most; i++ {
			grow(append(slices.Clone(places), i))
		}
	}
	grow(nil)
}

// The families are the same ones in the same order, or the batches aren't the same,
// whether they are valid or not.
func TestP10_2SameLists(t *testing.T) {
	from := []api.Family{gauge("a"), gauge("a", at(1, 1)), gauge("b"), gauge("a", at(1, 2)), {}, {Head: api.Head{Name: "a", Kind: 9}}}
	var all [][]int
	lists(len(from), 3, func(places []int) { all = append(all, places) })
	pick := func(places []int) []api.Family {
		var l []api.Family
		for _, i := range places {
			l = append(l, from[i])
		}
		return deep(l)
	}
	for _, a := range all {
		for _, b := range all {
			for _, pair := range [][2]string{{"t", "t"}, {"", ""}, {"T", "t"}} {
				want := pair[0] == pair[1] && slices.Equal(a, b)
				if got := batch.Same(of(pair[0], pick(a)...), of(pair[1], pick(b)...)); got != want {
					t.Fatalf("Same of %v and %v of %q: %v", a, b, pair, got)
				}
			}
		}
	}
}

func TestP10_2SameTenants(t *testing.T) {
	all := []string{"", "a", "A", "b", "aa", "a\xff", "a\x00", strings.Repeat("a", 16), strings.Repeat("a", 17)}
	for _, s := range all {
		for _, u := range all {
			for _, l := range [][]api.Family{nil, shapes()} {
				if got := batch.Same(of(s, l...), of(u, deep(l)...)); got != (s == u) {
					t.Errorf("of the tenants %q, %q: %v", s, u, got)
				}
			}
		}
	}
}

// One field of one family or of one point alone makes another batch.
func TestP10_2SameEachField(t *testing.T) {
	for i, change := range []func(f *api.Family){
		func(f *api.Family) { f.Name += "x" },
		func(f *api.Family) { f.Kind++ },
		func(f *api.Family) { f.Unit += "x" },
		func(f *api.Family) { f.Help += "x" },
		func(f *api.Family) { f.Points = append(f.Points, at(99, 0)) },
		func(f *api.Family) { f.Points = append([]api.Point{{Role: 7}}, f.Points...) },
	} {
		for place := range shapes() {
			l := shapes()
			change(&l[place])
			if batch.Same(of("t", l...), of("t", shapes()...)) || batch.Same(of("t", shapes()...), of("t", l...)) {
				t.Errorf("change %d at %d isn't seen", i, place)
			}
		}
	}
	for i, change := range []func(p *api.Point){
		func(p *api.Point) { p.Labels = append(p.Labels, labels("z", "")...) },
		func(p *api.Point) { p.Role++ },
		func(p *api.Point) { p.Inf = !p.Inf },
		func(p *api.Point) { p.Bound.M++ },
		func(p *api.Point) { p.Value.M++ },
		func(p *api.Point) { p.Timed = !p.Timed },
		func(p *api.Point) { p.Time++ },
	} {
		for place, f := range shapes() {
			for j := range f.Points {
				l := deep(shapes())
				change(&l[place].Points[j])
				if batch.Same(of("t", l...), of("t", shapes()...)) || batch.Same(of("t", shapes()...), of("t", l...)) {
					t.Errorf("change %d of the point %d of %q isn't seen", i, j, f.Name)
				}
			}
		}
	}
}

// An empty list is the same as none.
func TestP10_2SameOfNone(t *testing.T) {
	empty := gauge("a")
	empty.Points = []api.Point{}
	bare := gauge("a", api.Point{})
	bare.Points[0].Labels = []api.Label{}
	for _, pair := range [][2]api.Batch{
		{{}, {}},
		{{}, {Fams: []api.Family{}}},
		{of("t", gauge("a")), of("t", empty)},
		{of("t", gauge("a", api.Point{})), of("t", bare)},
	} {
		if !batch.Same(pair[0], pair[1]) || !batch.Same(pair[1], pair[0]) {
			t.Errorf("%+v is another one than %+v", pair[0], pair[1])
		}
	}
}

// Points counts the points of any families: in any order, of any names, valid or not.
func TestP10_2Points(t *testing.T) {
	r := rand.New(rand.NewSource(104))
	for range 300 {
		n, total := 1+r.Intn(50), r.Intn(400)
		l := sized(spread(r, n, total)...)
		r.Shuffle(n, func(i, j int) { l[i], l[j] = l[j], l[i] })
		for i := range l {
			if r.Intn(3) == 0 {
				l[i].Name = "twice"
			}
		}
		b := of([]string{"", "t", "T"}[r.Intn(3)], l...)
		if got := batch.Points(b); got != total {
			t.Fatalf("Points of %d families: %d; want %d", n, got, total)
		}
	}
	for _, b := range []api.Batch{{}, of("t"), of("t", []api.Family{}...), of("t", gauge("a"), gauge("b"))} {
		if got := batch.Points(b); got != 0 {
			t.Errorf("Points(%+v) = %d", b, got)
		}
	}
	same := gauge("a", api.Point{}, api.Point{}, api.Point{Role: 77, Time: math.MinInt64})
	if got := batch.Points(of("t", same, same)); got != 6 {
		t.Errorf("points that are alike, in families that are alike: %d", got)
	}
}

// Stamp changes the tenant alone, of any batch, and asks nothing of either.
func TestP10_2Stamp(t *testing.T) {
	back := shapes()
	slices.Reverse(back)
	fams := [][]api.Family{nil, {}, shapes(), back, append(shapes(), shapes()...), sized(slices.Repeat([]int{9}, 50)...)}
	for _, f := range bad("e") {
		fams = append(fams, []api.Family{f, gauge("a"), f})
	}
	all := []string{"", "t", "u-0", "No tenant", "\xff", strings.Repeat("a", 16), strings.Repeat("b", 1000)}
	for _, l := range fams {
		for _, from := range all {
			for _, to := range all {
				b := of(from, l...)
				was := of(from, deep(l)...)
				if got := batch.Stamp(b, to); !equal(got, of(to, l...)) {
					t.Fatalf("Stamp(%+v, %q) = %+v", b, to, got)
				}
				if !equal(b, was) {
					t.Fatalf("Stamp made %+v of %+v", b, was)
				}
			}
		}
	}
}

// memory is all of the memory behind families: the families, their points, their labels.
type memory struct {
	fams   []api.Family
	points [][]api.Point
	labels [][]api.Label
}

// behind returns the memory that can be reached from families, with what is behind the
// ends of their lists.
func behind(l []api.Family) memory {
	m := memory{fams: l[:cap(l)]}
	for _, f := range m.fams {
		points := f.Points[:cap(f.Points)]
		m.points = append(m.points, points)
		for _, p := range points {
			m.labels = append(m.labels, p.Labels[:cap(p.Labels)])
		}
	}
	return m
}

// spoil overwrites all of it.
func (m memory) spoil() {
	for _, l := range m.labels {
		for i := range l {
			l[i] = api.Label{Name: "spoiled", Value: "s"}
		}
	}
	for _, l := range m.points {
		for i := range l {
			l[i] = api.Point{Role: 55}
		}
	}
	for i := range m.fams {
		m.fams[i] = gauge("spoiled")
	}
}

// given makes a batch of which families and points have one list, with more behind the
// ends of the lists; and all of the families in that memory.
func given() (api.Batch, []api.Family) {
	names := labels("a", "1", "b", "2", "c", "3", "d", "4")
	points := []api.Point{at(3, 1), at(1, 2), at(2, 3), {}, {Role: api.Sum}, at(9, 9)}
	points[0].Labels, points[1].Labels, points[2].Labels, points[3].Labels = names[:2], names[:2], names[1:3], names[:0]
	all := []api.Family{gauge("c", points[:3]...), gauge("a", points[:3]...), gauge("b", points[1:4]...), gauge("d", points...), gauge("a", points[4:]...)}
	return of("t", all[:3]...), all
}

// makers are the calls that answer a batch.
func makers() map[string]func(b api.Batch) api.Batch {
	return map[string]func(b api.Batch) api.Batch{
		"Sort":  func(b api.Batch) api.Batch { got, _ := batch.Sort(b); return got },
		"Of":    func(b api.Batch) api.Batch { got, _ := batch.Of("t", b.Fams...); return got },
		"Stamp": func(b api.Batch) api.Batch { return batch.Stamp(b, "t") },
	}
}

// What is done with a result is seen neither in the argument nor in another result, and
// what is done with the argument isn't seen in a result.
func TestP10_2Memory(t *testing.T) {
	for name, call := range makers() {
		b, all := given()
		was := deep(all)
		first, second := call(b), call(b)
		want := of("t", deep(second.Fams)...)
		if batch.Points(want) != 9 {
			t.Fatalf("%s = %+v", name, second)
		}
		behind(first.Fams).spoil()
		if !slices.EqualFunc(all, was, even) {
			t.Errorf("%s shares memory with its argument: %+v", name, all)
		}
		if !equal(second, want) {
			t.Errorf("two results of %s share memory: %+v", name, second)
		}
		behind(all).spoil()
		if !equal(second, want) {
			t.Errorf("%s keeps its argument: %+v", name, second)
		}
	}
}

// Appending to the lists of a result changes nothing else either.
func TestP10_2MemoryAppended(t *testing.T) {
	for name, call := range makers() {
		b, all := given()
		was := deep(all)
		first, second := call(b), call(b)
		want := of("t", deep(second.Fams)...)
		for i, f := range first.Fams {
			for j, p := range f.Points {
				first.Fams[i].Points[j].Labels = append(p.Labels, labels("x", "y")...)
			}
			first.Fams[i].Points = append(f.Points, at(77, 7))
		}
		first.Fams = append(first.Fams, gauge("x"))
		if !slices.EqualFunc(all, was, even) || !equal(second, want) {
			t.Errorf("%s shares memory: %+v, %+v", name, all, second)
		}
	}
}

// No two lists of a result are one, even if those that were given were.
func TestP10_2ListsApart(t *testing.T) {
	for name, call := range makers() {
		b, _ := given()
		got := call(b)
		for i := range got.Fams {
			for j := range got.Fams[i].Points {
				before := deep(got.Fams)
				l := got.Fams[i].Points[j].Labels
				for k := range l[:cap(l)] {
					l[:cap(l)][k] = api.Label{Name: "spoiled"}
				}
				copy(before[i].Points[j].Labels, l)
				if !slices.EqualFunc(got.Fams, before, even) {
					t.Errorf("%s: labels of the point %d of %q are shared", name, j, got.Fams[i].Name)
				}
			}
			before := deep(got.Fams)
			l := got.Fams[i].Points
			for k := range l[:cap(l)] {
				l[:cap(l)][k] = api.Point{Role: 55}
			}
			copy(before[i].Points, l)
			if !slices.EqualFunc(got.Fams, before, even) {
				t.Errorf("%s: points of %q are shared", name, got.Fams[i].Name)
			}
		}
	}
}

// What is only asked stays as it was.
func TestP10_2AskedBatchesStay(t *testing.T) {
	b, all := given()
	was := deep(all)
	batch.Check(b)
	batch.Check(of("t", all...))
	batch.Points(b)
	batch.Same(b, b)
	batch.Same(b, of("t", all...))
	if !slices.EqualFunc(all, was, even) {
		t.Errorf("%+v became %+v", was, all)
	}
}

// draw makes a batch of few names, times and values, with some that can't be sorted.
func draw(r *rand.Rand) api.Batch {
	b := of([]string{"t", "u-1", "T"}[r.Intn(3)])
	for range r.Intn(5) {
		f := gauge([]string{"", "a", "ab", "b", "c", "d", "é"}[r.Intn(7)])
		for range r.Intn(4) {
			p := at(int64(r.Intn(9)), int64(r.Intn(2)))
			p.Labels = [][]api.Label{nil, labels("a", "1"), labels("a", "2")}[r.Intn(3)]
			f.Points = append(f.Points, p)
		}
		b.Fams = append(b.Fams, f)
	}
	return b
}

// mixed returns b with its families and their points in another order.
func mixed(r *rand.Rand, b api.Batch) api.Batch {
	l := shuffled(r, b.Fams)
	r.Shuffle(len(l), func(i, j int) { l[i], l[j] = l[j], l[i] })
	return of(b.Tenant, l...)
}

// Whatever the order in which families and points are given, the sorted batch is one, and
// sorting it again changes nothing; if there is none, there is none in any order.
func TestP10_3OneForm(t *testing.T) {
	r := rand.New(rand.NewSource(105))
	can := 0
	for range 4000 {
		b := draw(r)
		first, is := batch.Sort(b)
		if is {
			can++
		}
		for range 4 {
			other := mixed(r, b)
			got, ok := batch.Sort(other)
			if ok != is || !equal(got, first) || !batch.Same(got, first) {
				t.Fatalf("Sort(%+v) = %+v, %v; Sort(%+v) = %+v, %v", b, first, is, other, got, ok)
			}
		}
		if again, ok := batch.Sort(first); !ok || !batch.Same(again, first) {
			t.Fatalf("Sort(%+v) = %+v, %v", first, again, ok)
		}
	}
	if can < 500 || can > 3500 {
		t.Errorf("%d of the batches drawn could be sorted", can)
	}
}

// Of all orders, Check lets the sorted one through and no other.
func TestP10_3OnlyTheSortedFormIsValid(t *testing.T) {
	sorted, _ := batch.Of("t", shapes()...)
	if !equal(sorted, of("t", shapes()...)) {
		t.Fatalf("Of = %+v", sorted)
	}
	r := rand.New(rand.NewSource(106))
	orders(shapes(), func(l []api.Family) {
		for _, b := range []api.Batch{of("t", l...), of("t", shuffled(r, l)...)} {
			if got, is := batch.Check(b), equal(b, sorted); (got == api.OK) != is {
				t.Fatalf("Check(%+v) = %d", b, got)
			}
		}
	})
}

// Other families, other points or another tenant have another sorted form.
func TestP10_3OtherBatchesHaveOtherForms(t *testing.T) {
	r := rand.New(rand.NewSource(107))
	same, others := 0, 0
	for range 4000 {
		a := draw(r)
		b := near(r, a)
		x, isA := batch.Sort(a)
		y, isB := batch.Sort(b)
		if !isA || !isB {
			continue
		}
		got := batch.Same(x, y)
		if got != contained(a, b) {
			t.Fatalf("%+v and %+v: %v", x, y, got)
		}
		if got {
			same++
		} else {
			others++
		}
	}
	if same < 300 || others < 300 {
		t.Errorf("%d drawn were the same, %d were not", same, others)
	}
}

// near returns b in another order, mostly with a change.
func near(r *rand.Rand, b api.Batch) api.Batch {
	b = mixed(r, b)
	if len(b.Fams) == 0 || r.Intn(4) == 0 {
		return b
	}
	f := &b.Fams[r.Intn(len(b.Fams))]
	switch r.Intn(5) {
	case 0:
		b.Tenant += "x"
	case 1:
		b.Fams = b.Fams[1:]
	case 2:
		f.Help = "other"
	case 3:
		f.Points = append(f.Points, at(99, 0))
	default:
		for i := range f.Points {
			f.Points[i].Value.M++
		}
	}
	return b
}

// contained tells whether two batches that can be sorted have the same tenant, families
// and points, in any order.
func contained(a, b api.Batch) bool {
	if a.Tenant != b.Tenant || len(a.Fams) != len(b.Fams) {
		return false
	}
	for _, f := range a.Fams {
		i := slices.IndexFunc(b.Fams, func(g api.Family) bool { return g.Head == f.Head })
		if i < 0 || len(f.Points) != len(b.Fams[i].Points) {
			return false
		}
		for _, p := range f.Points {
			if !slices.ContainsFunc(b.Fams[i].Points, func(q api.Point) bool { return alike(p, q) }) {
				return false
			}
		}
	}
	return true
}
