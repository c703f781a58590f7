package merge_test

import (
	"math"
	"math/rand"
	"slices"
	"strconv"
	"strings"
	"testing"

	"polyglot/api"
	"polyglot/batch"
	"polyglot/family"
	"polyglot/merge"
	"polyglot/point"
)

// labels makes labels of names and values.
func labels(l ...string) []api.Label {
	var all []api.Label
	for i := 0; i < len(l); i += 2 {
		all = append(all, api.Label{Name: l[i], Value: l[i+1]})
	}
	return all
}

// kind makes a family of a kind.
func kind(k int, name string, l ...api.Point) api.Family {
	return api.Family{Head: api.Head{Name: name, Kind: k}, Points: l}
}

// gauge makes a gauge of points.
func gauge(name string, l ...api.Point) api.Family { return kind(api.Gauge, name, l...) }

// said gives a family a unit and a help.
func said(f api.Family, unit, help string) api.Family {
	f.Unit, f.Help = unit, help
	return f
}

// at makes a point at a time.
func at(ms, value int64) api.Point {
	return api.Point{Timed: true, Time: ms, Value: api.Dec{M: value}}
}

// row makes n points in ascending order, the first one at a time.
func row(from, n int, value int64) []api.Point {
	var all []api.Point
	for i := range n {
		all = append(all, at(int64(from+i), value))
	}
	return all
}

// of makes a batch of the tenant t.
func of(fams ...api.Family) api.Batch { return api.Batch{Tenant: "t", Fams: fams} }

// sized makes a batch of families with so many points, whose names begin with prefix.
func sized(prefix string, points ...int) api.Batch {
	var all []api.Family
	for i, n := range points {
		all = append(all, gauge(prefix+strconv.Itoa(1000+i), row(0, n, 7)...))
	}
	return of(all...)
}

// deep copies families, their points and their labels.
func deep(l []api.Family) []api.Family {
	all := make([]api.Family, len(l))
	for i, f := range l {
		all[i] = api.Family{Head: f.Head, Points: make([]api.Point, len(f.Points))}
		for j, p := range f.Points {
			all[i].Points[j] = p
			all[i].Points[j].Labels = append([]api.Label{}, p.Labels...)
		}
	}
	return all
}

// deepAll copies batches.
func deepAll(l []api.Batch) []api.Batch {
	var all []api.Batch
	for _, b := range l {
		all = append(all, api.Batch{Tenant: b.Tenant, Fams: deep(b.Fams)})
	}
	return all
}

// alike tells whether two points have the same fields, whatever their meaning.
func alike(p, q api.Point) bool {
	return slices.Equal(p.Labels, q.Labels) && p.Role == q.Role && p.Inf == q.Inf && p.Bound == q.Bound && p.Value == q.Value && p.Timed == q.Timed && p.Time == q.Time
}

// even tells whether two families have the same fields, whatever their meaning.
func even(f, g api.Family) bool {
	return f.Head == g.Head && slices.EqualFunc(f.Points, g.Points, alike)
}

// equal tells whether two batches have the same fields, whatever their meaning.
func equal(a, b api.Batch) bool {
	return a.Tenant == b.Tenant && slices.EqualFunc(a.Fams, b.Fams, even)
}

// blank tells whether f is the zero family.
func blank(f api.Family) bool { return f.Head == api.Head{} && len(f.Points) == 0 }

// none tells whether b is the zero batch.
func none(b api.Batch) bool { return b.Tenant == "" && len(b.Fams) == 0 }

// orders gives f the elements in each order.
func orders[T any](l []T, f func(l []T)) {
	l = slices.Clone(l)
	var swap func(from int)
	swap = func(from int) {
		if from == len(l) {
			f(slices.Clone(l))
			return
		}
		for i := from; i < len(l); i++ {
			l[from], l[i] = l[i], l[from]
			swap(from + 1)
			l[from], l[i] = l[i], l[from]
		}
	}
	swap(0)
}

// joined is what the chapter says of the points: those of a and b, without those of a for
// which b has one, in ascending order.
func joined(a, b []api.Point) []api.Point {
	all := slices.Clone(b)
	for _, p := range a {
		if !slices.ContainsFunc(b, func(q api.Point) bool { return point.Compare(p, q) == 0 }) {
			all = append(all, p)
		}
	}
	slices.SortStableFunc(all, point.Compare)
	return all
}

// united is what the chapter says of two families that can be put together.
func united(a, b api.Family) api.Family {
	all := api.Family{Head: a.Head, Points: joined(a.Points, b.Points)}
	if b.Unit != "" {
		all.Unit = b.Unit
	}
	if b.Help != "" {
		all.Help = b.Help
	}
	return all
}

// checkPut holds Put of two families that can be put together, either way round.
func checkPut(t *testing.T, a, b api.Family) {
	t.Helper()
	for _, pair := range [][2]api.Family{{a, b}, {b, a}} {
		want := united(pair[0], pair[1])
		got, ok := merge.Put(pair[0], pair[1])
		if !ok || !even(got, want) || !family.Good(got) {
			t.Fatalf("Put(%+v, %+v) = %+v, %v; want %+v", pair[0], pair[1], got, ok, want)
		}
	}
}

// refusePut holds that the two can't be put together, either way round.
func refusePut(t *testing.T, a, b api.Family) {
	t.Helper()
	for _, pair := range [][2]api.Family{{a, b}, {b, a}} {
		if got, ok := merge.Put(pair[0], pair[1]); ok || !blank(got) {
			t.Errorf("Put(%+v, %+v) = %+v, %v", pair[0], pair[1], got, ok)
		}
	}
}

// ups has points in ascending order for each kind: each of the fields that tell points
// apart tells two of them apart.
func ups() map[int][]api.Point {
	le := func(m int64, s int, more api.Point) api.Point {
		more.Role, more.Bound = api.Bucket, api.Dec{M: m, S: s}
		return more
	}
	quantile := func(m int64, s int) api.Point { return api.Point{Role: api.Quantile, Bound: api.Dec{M: m, S: s}} }
	plain := []api.Point{{}, at(-1, 0), at(0, 0), {Labels: labels("a", "")}, {Labels: labels("a", "1")}, {Labels: labels("b", "")}}
	return map[int][]api.Point{
		api.Untyped:   plain,
		api.Gauge:     plain,
		api.Counter:   plain,
		api.Histogram: {le(-5, 1, api.Point{}), le(2, 0, api.Point{}), {Role: api.Bucket, Inf: true}, {Role: api.Count}, {Role: api.Sum}, le(2, 0, at(0, 0))},
		api.Summary:   {quantile(0, 0), quantile(25, 2), quantile(1, 0), {Role: api.Count}, {Role: api.Sum}, {Labels: labels("a", ""), Role: api.Sum}},
	}
}

// picked returns those points whose bits are set, with values.
func picked(l []api.Point, bits int, value int64) []api.Point {
	var all []api.Point
	for i, p := range l {
		if bits>>i&1 == 1 {
			p.Value = api.Dec{M: value + int64(i)}
			all = append(all, p)
		}
	}
	return all
}

// All sets of points with all sets of points, of each kind.
func TestP11_1PutEachSetOfPoints(t *testing.T) {
	for k, l := range ups() {
		if !family.Good(kind(k, "a", l...)) {
			t.Fatalf("points of the kind %d aren't in order", k)
		}
		for a := range 1 << len(l) {
			for b := range 1 << len(l) {
				checkPut(t, kind(k, "a", picked(l, a, 10)...), kind(k, "a", picked(l, b, 20)...))
			}
		}
	}
}

// What one field alone tells apart is kept on both sides; a value alone is replaced.
func TestP11_1PutEachField(t *testing.T) {
	base := api.Point{Role: api.Bucket, Labels: labels("a", "1"), Bound: api.Dec{M: 1}, Value: api.Dec{M: 3}, Timed: true, Time: 4}
	for i, change := range []func(p *api.Point){
		func(p *api.Point) { p.Labels = labels("b", "1") },
		func(p *api.Point) { p.Labels = labels("a", "2") },
		func(p *api.Point) { p.Labels = nil },
		func(p *api.Point) { p.Labels = labels("a", "1", "b", "") },
		func(p *api.Point) { p.Timed, p.Time = false, 0 },
		func(p *api.Point) { p.Time = 5 },
		func(p *api.Point) { p.Role, p.Bound = api.Count, api.Dec{} },
		func(p *api.Point) { p.Inf, p.Bound = true, api.Dec{} },
		func(p *api.Point) { p.Bound = api.Dec{M: 11, S: 1} },
	} {
		other := base
		change(&other)
		checkPut(t, kind(api.Histogram, "h", base), kind(api.Histogram, "h", other))
		if got, _ := merge.Put(kind(api.Histogram, "h", base), kind(api.Histogram, "h", other)); len(got.Points) != 2 {
			t.Errorf("change %d makes no other point: %+v", i, got)
		}
	}
	for _, value := range []api.Dec{{}, {M: 5, S: 1}, {M: math.MaxInt64, S: 18}} {
		other := base
		other.Value = value
		got, ok := merge.Put(kind(api.Histogram, "h", base), kind(api.Histogram, "h", other))
		if !ok || len(got.Points) != 1 || !alike(got.Points[0], other) {
			t.Errorf("with the value %v: %+v, %v", value, got, ok)
		}
	}
}

// Untimed is not the time 0.
func TestP11_1PutUntimed(t *testing.T) {
	got, ok := merge.Put(gauge("a", at(0, 1)), gauge("a", api.Point{Value: api.Dec{M: 2}}))
	want := gauge("a", api.Point{Value: api.Dec{M: 2}}, at(0, 1))
	if !ok || !even(got, want) {
		t.Errorf("Put = %+v, %v", got, ok)
	}
}

func TestP11_1PutUnitAndHelp(t *testing.T) {
	texts := []string{"", "s", "ms", "\n", "é", strings.Repeat("x", 60)}
	for _, unitA := range texts {
		for _, unitB := range texts {
			for _, helpA := range texts {
				for _, helpB := range texts {
					checkPut(t, said(gauge("a", at(1, 1)), unitA, helpA), said(gauge("a", at(2, 2)), unitB, helpB))
				}
			}
		}
	}
	got, ok := merge.Put(said(gauge("a"), "s", "one"), said(gauge("a"), "", "two"))
	if !ok || got.Unit != "s" || got.Help != "two" {
		t.Errorf("Put = %+v, %v", got, ok)
	}
	got, ok = merge.Put(said(gauge("a"), "s", "one"), said(gauge("a"), "ms", ""))
	if !ok || got.Unit != "ms" || got.Help != "one" {
		t.Errorf("Put = %+v, %v", got, ok)
	}
}

// bad has families that aren't valid, all of one name and of the kind Gauge but for some.
func bad(name string) []api.Family {
	all := []api.Family{
		gauge(name, at(1, 0), at(0, 0)),
		gauge(name, at(1, 0), at(1, 1)),
		gauge(name, api.Point{Role: api.Sum}),
		gauge(name, api.Point{Value: api.Dec{M: 10, S: 1}}),
		gauge(name, api.Point{Labels: labels("b", "", "a", "")}),
		gauge(name, api.Point{Time: 1}),
		gauge(name, at(1, 0), at(2, 0), at(api.MaxTime+1, 0)),
		said(gauge(name), "\xff", ""),
		said(gauge(name), "", strings.Repeat("h", 61)),
		kind(-1, name),
		kind(5, name),
		kind(api.Counter, name, at(0, -1)),
	}
	for _, f := range all {
		if family.Good(f) {
			panic("a good one: " + f.Name)
		}
	}
	return all
}

func TestP11_1PutRefusesWhatIsNotGood(t *testing.T) {
	for _, f := range bad("a") {
		for _, l := range [][]api.Point{nil, {at(1, 7)}, {{}}} {
			refusePut(t, f, kind(f.Kind, "a", l...))
			refusePut(t, f, said(kind(f.Kind, "a", l...), "s", "help"))
		}
		refusePut(t, f, f)
		empty := f
		empty.Points = nil
		refusePut(t, f, empty)
	}
	for _, name := range []string{"", "\n", "\x7f", "\xff", strings.Repeat("a", 61)} {
		refusePut(t, gauge(name, at(1, 1)), gauge(name, at(2, 2)))
	}
	refusePut(t, api.Family{}, api.Family{})
}

func TestP11_1PutRefusesOtherNamesAndKinds(t *testing.T) {
	kinds := []int{api.Untyped, api.Gauge, api.Counter, api.Histogram, api.Summary}
	names := []string{"a", "A", "b", "aa", "ab", "é", strings.Repeat("a", 60)}
	for _, nameA := range names {
		for _, nameB := range names {
			for _, kindA := range kinds {
				for _, kindB := range kinds {
					for _, points := range [][]api.Point{nil, {{Role: point.Roles(kindA)[0]}}} {
						a, b := kind(kindA, nameA, points...), kind(kindB, nameB)
						if nameA == nameB && kindA == kindB {
							checkPut(t, a, b)
						} else {
							refusePut(t, a, b)
						}
					}
				}
			}
		}
	}
	plain := []api.Point{at(1, 1), at(2, 2)}
	for _, k := range []int{api.Untyped, api.Counter} {
		refusePut(t, gauge("a", plain...), kind(k, "a", plain...))
	}
}

// A batch has limits; a family has none.
func TestP11_1PutOfManyPoints(t *testing.T) {
	for _, n := range []int{60, 61, 119, 120, 121, 500} {
		checkPut(t, gauge("a", row(0, n, 1)...), gauge("a", row(n, n, 2)...))
		checkPut(t, gauge("a", row(0, n, 1)...), gauge("a", row(0, n, 2)...))
		checkPut(t, gauge("a", row(0, n, 1)...), gauge("a", row(n/2, n, 2)...))
		checkPut(t, gauge("a", row(0, n, 1)...), gauge("a"))
	}
}

// gathered is what the reference has seen of the families of one name.
type gathered struct {
	head   api.Head
	points []api.Point
}

// reference is what the chapter says of merging: the error, and if there is none the batch.
func reference(l []api.Batch) (api.Batch, api.Errno) {
	for _, b := range l {
		if batch.Check(b) != api.OK {
			return api.Batch{}, api.ErrForm
		}
	}
	byName := map[string]*gathered{}
	var names []string
	other, differ := false, false
	for _, b := range l {
		other = other || b.Tenant != l[0].Tenant
		for _, f := range b.Fams {
			was := byName[f.Name]
			if was == nil {
				byName[f.Name] = &gathered{head: f.Head, points: f.Points}
				names = append(names, f.Name)
				continue
			}
			if was.head.Kind != f.Kind {
				differ = true
				continue
			}
			one := united(api.Family{Head: was.head, Points: was.points}, f)
			was.head, was.points = one.Head, one.Points
		}
	}
	switch {
	case len(l) == 0:
		return api.Batch{}, api.OK
	case other:
		return api.Batch{}, api.ErrTenant
	case differ:
		return api.Batch{}, api.ErrContext
	}
	slices.Sort(names)
	all := api.Batch{Tenant: l[0].Tenant}
	total := 0
	for _, name := range names {
		all.Fams = append(all.Fams, api.Family{Head: byName[name].head, Points: byName[name].points})
		total += len(byName[name].points)
	}
	if len(names) > 30 || total > 120 {
		return api.Batch{}, api.ErrLimit
	}
	return all, api.OK
}

// checkMerge holds Merge against the reference, and returns its error.
func checkMerge(t *testing.T, l ...api.Batch) api.Errno {
	t.Helper()
	was := deepAll(l)
	want, wrong := reference(l)
	got, e := merge.Merge(l...)
	if e != wrong || !equal(got, want) || e != api.OK && !none(got) {
		t.Fatalf("Merge(%+v) = %+v, %d; want %+v, %d", l, got, e, want, wrong)
	}
	if !slices.EqualFunc(l, was, equal) {
		t.Fatalf("Merge made %+v of %+v", l, was)
	}
	if len(l) > 0 && e == api.OK && batch.Check(got) != api.OK {
		t.Fatalf("Merge(%+v) = %+v, which is not valid", l, got)
	}
	return e
}

// expect holds Merge against the reference, and its error against the one expected.
func expect(t *testing.T, what string, want api.Errno, l ...api.Batch) {
	t.Helper()
	if got := checkMerge(t, l...); got != want {
		t.Errorf("%s: %d; want %d", what, got, want)
	}
}

func TestP11_2MergeOfNone(t *testing.T) {
	for _, l := range [][]api.Batch{nil, {}} {
		if got, e := merge.Merge(l...); e != api.OK || !none(got) {
			t.Errorf("Merge of none = %+v, %d", got, e)
		}
	}
	expect(t, "an empty batch that is no tenant's", api.ErrForm, api.Batch{})
	expect(t, "two of them", api.ErrForm, api.Batch{}, api.Batch{})
	expect(t, "an empty batch of a tenant", api.OK, of())
	expect(t, "three of them", api.OK, of(), of(), of())
}

// shapes is a batch with families of all kinds.
func shapes() api.Batch {
	var all []api.Family
	for k, l := range ups() {
		all = append(all, said(kind(k, "k"+strconv.Itoa(k), l...), "s", "help\n"))
	}
	slices.SortFunc(all, func(f, g api.Family) int { return strings.Compare(f.Name, g.Name) })
	return of(all...)
}

// The example: merging a batch with itself gives the batch, however often.
func TestP11_2MergeWithItself(t *testing.T) {
	for _, b := range []api.Batch{of(), of(gauge("a")), shapes(), sized("f", slices.Repeat([]int{4}, 30)...), sized("f", 120)} {
		for n := 1; n <= 5; n++ {
			if got, e := merge.Merge(slices.Repeat([]api.Batch{b}, n)...); e != api.OK || !equal(got, b) {
				t.Errorf("%d times %+v: %+v, %d", n, b, got, e)
			}
		}
		if got, e := merge.Merge(of(), b, of()); e != api.OK || !equal(got, b) {
			t.Errorf("among empty ones, %+v: %+v, %d", b, got, e)
		}
	}
}

// Families are sorted by the bytes of their names, whichever batch they are of.
func TestP11_2MergeEachSharing(t *testing.T) {
	names := []string{"-", "A", "a", "a b", "aa", "é"}
	for a := range 1 << len(names) {
		for b := range 1 << len(names) {
			var l [2]api.Batch
			for i, bits := range []int{a, b} {
				l[i] = of()
				for j, name := range names {
					if bits>>j&1 == 1 {
						l[i].Fams = append(l[i].Fams, gauge(name, at(int64(i), 1), at(5, int64(10*i+j))))
					}
				}
			}
			if e := checkMerge(t, l[0], l[1]); e != api.OK {
				t.Fatalf("%+v: %d", l, e)
			}
		}
	}
}

// Unit and help are the last ones that were said, in the order of the batches.
func TestP11_2MergeInTheOrderOfTheBatches(t *testing.T) {
	l := []api.Batch{
		of(said(gauge("a", at(1, 1), at(2, 1)), "s", "")),
		of(said(gauge("a", at(2, 2), at(3, 2)), "", "one"), gauge("b")),
		of(said(gauge("a", at(1, 3), at(4, 3)), "ms", "two")),
		of(gauge("a", at(1, 4)), said(gauge("b"), "kg", "three")),
	}
	seen := map[string]bool{}
	orders(l, func(l []api.Batch) {
		if e := checkMerge(t, l...); e != api.OK {
			t.Fatalf("%+v: %d", l, e)
		}
		got, _ := merge.Merge(l...)
		key := ""
		for _, p := range got.Fams[0].Points {
			key += strconv.Itoa(int(p.Value.M))
		}
		seen[key+got.Fams[0].Unit+got.Fams[0].Help] = true
	})
	if len(seen) < 10 {
		t.Errorf("the order made only %v", seen)
	}
	got, e := merge.Merge(l...)
	want := of(said(gauge("a", at(1, 4), at(2, 2), at(3, 2), at(4, 3)), "ms", "two"), said(gauge("b"), "kg", "three"))
	if e != api.OK || !equal(got, want) {
		t.Errorf("Merge = %+v, %d", got, e)
	}
}

// A batch for which Check has an error, whichever it is, is refused wherever it is.
func TestP11_2MergeRefusesEachBadBatch(t *testing.T) {
	wrong := []api.Batch{
		{},
		{Tenant: "T"},
		{Tenant: strings.Repeat("t", 17)},
		of(gauge("b"), gauge("a")),
		of(gauge("a"), gauge("a")),
		sized("f", make([]int, 31)...),
		sized("f", 121),
		sized("f", 60, 61),
	}
	for _, f := range bad("a") {
		wrong = append(wrong, of(f))
	}
	for _, b := range wrong {
		if batch.Check(b) == api.OK {
			t.Fatalf("%+v is valid", b)
		}
		for n := 1; n <= 4; n++ {
			for place := range n {
				l := slices.Repeat([]api.Batch{of(gauge("a", at(1, 1)))}, n)
				l[place] = b
				expect(t, "a batch that is not valid", api.ErrForm, l...)
			}
		}
	}
}

func TestP11_2MergeRefusesOtherTenants(t *testing.T) {
	for n := 2; n <= 5; n++ {
		for place := range n {
			for _, fams := range [][]api.Family{nil, {gauge("a", at(1, 1))}, {gauge("b")}} {
				l := slices.Repeat([]api.Batch{of(fams...)}, n)
				expect(t, "one tenant", api.OK, l...)
				for _, tenant := range []string{"u", "tt", "-", "t-"} {
					l[place] = batch.Stamp(l[place], tenant)
					expect(t, "two tenants", api.ErrTenant, l...)
				}
			}
		}
	}
	got, e := merge.Merge(api.Batch{Tenant: "some-one-else-16"}, api.Batch{Tenant: "some-one-else-16", Fams: []api.Family{gauge("a")}})
	if e != api.OK || got.Tenant != "some-one-else-16" || len(got.Fams) != 1 {
		t.Errorf("Merge = %+v, %d", got, e)
	}
}

// Two families of one name and of different kinds are seen in any two of the batches.
func TestP11_2MergeRefusesOtherKinds(t *testing.T) {
	for n := 2; n <= 5; n++ {
		for first := range n {
			for second := range first {
				for a := range 5 {
					for b := range 5 {
						l := slices.Repeat([]api.Batch{of(gauge("a", at(1, 1)), gauge("y"))}, n)
						l[first], l[second] = of(kind(a, "x")), of(kind(b, "x"), gauge("z"))
						want := api.OK
						if a != b {
							want = api.ErrContext
						}
						expect(t, "kinds", want, l...)
					}
				}
			}
		}
	}
	expect(t, "of a kind from the one to the other and back", api.ErrContext, of(gauge("a")), of(kind(api.Counter, "a")), of(gauge("a")))
	expect(t, "of other names", api.OK, of(gauge("a")), of(kind(api.Counter, "A"), kind(api.Untyped, "a_total"), kind(api.Summary, "aa")))
}

// The limits are those of the result, from both sides.
func TestP11_2MergeLimits(t *testing.T) {
	for _, n := range []int{0, 1, 14, 15, 16, 29, 30} {
		for _, m := range []int{0, 1, 14, 15, 16, 29, 30} {
			want := api.OK
			if n+m > 30 {
				want = api.ErrLimit
			}
			expect(t, "families", want, sized("f", make([]int, n)...), sized("g", make([]int, m)...))
			expect(t, "families", want, sized("g", make([]int, m)...), sized("f", make([]int, n)...))
			expect(t, "families of the same names", api.OK, sized("f", make([]int, n)...), sized("f", make([]int, m)...))
		}
	}
	for _, n := range []int{0, 1, 59, 60, 61, 119, 120} {
		for _, m := range []int{0, 1, 59, 60, 61, 119, 120} {
			want := api.OK
			if n+m > 120 {
				want = api.ErrLimit
			}
			expect(t, "points of two families", want, sized("f", n), sized("g", m))
			expect(t, "points of one family", want, of(gauge("a", row(0, n, 1)...)), of(gauge("a", row(200, m, 2)...)))
			expect(t, "points that are replaced", api.OK, of(gauge("a", row(0, n, 1)...)), of(gauge("a", row(0, m, 2)...)))
			if want = api.OK; n > 1 && m > 1 && n+m-1 > 120 {
				want = api.ErrLimit
			}
			if n > 0 && m > 0 {
				expect(t, "points of which one is replaced", want, of(gauge("a", row(0, n, 1)...)), of(gauge("a", row(n-1, m, 2)...)))
			}
		}
	}
}

// What is too large grows out of many batches too, and stays so whatever follows.
func TestP11_2MergeLimitsOfMany(t *testing.T) {
	for n := 27; n <= 33; n++ {
		var l []api.Batch
		for i := range n {
			l = append(l, of(gauge("f"+strconv.Itoa(i), at(int64(i), 1))))
		}
		want := api.OK
		if n > 30 {
			want = api.ErrLimit
		}
		expect(t, "families one by one", want, l...)
		slices.Reverse(l)
		expect(t, "families one by one", want, append(l, of(), l[0], l[n/2])...)
	}
	for n := 118; n <= 123; n++ {
		var l []api.Batch
		for i := range n {
			l = append(l, of(gauge("a", at(int64(i), 1))))
		}
		want := api.OK
		if n > 120 {
			want = api.ErrLimit
		}
		expect(t, "points one by one", want, l...)
		slices.Reverse(l)
		expect(t, "points one by one", want, append(l, of(), l[0], l[n/2])...)
	}
}

// defects are batches that make a merge wrong, by the error for which they stand; they are
// merged with sized("f", 30 families of 4 points).
func defects() map[api.Errno][]api.Batch {
	return map[api.Errno][]api.Batch{
		api.ErrForm:    {{}, of(gauge("b"), gauge("a")), of(bad("a")[0]), sized("f", 121), sized("f", make([]int, 31)...)},
		api.ErrTenant:  {{Tenant: "u"}, {Tenant: "u", Fams: []api.Family{gauge("f1000", row(0, 4, 7)...)}}},
		api.ErrContext: {of(kind(api.Counter, "f1000")), of(kind(api.Summary, "f1029"))},
		api.ErrLimit:   {of(gauge("g")), of(gauge("f1000", at(99, 1))), sized("e", 1, 1, 1)},
	}
}

// Of all that is wrong, wherever it is, the error that is named first is answered.
func TestP11_2MergeErrorsInOrder(t *testing.T) {
	named := []api.Errno{api.ErrForm, api.ErrTenant, api.ErrContext, api.ErrLimit}
	r := rand.New(rand.NewSource(111))
	for bits := range 1 << len(named) {
		want := api.OK
		for i := len(named) - 1; i >= 0; i-- {
			if bits>>i&1 == 1 {
				want = named[i]
			}
		}
		for range 40 {
			l := []api.Batch{sized("f", slices.Repeat([]int{4}, 30)...)}
			for i, e := range named {
				if all := defects()[e]; bits>>i&1 == 1 {
					l = append(l, all[r.Intn(len(all))])
				}
			}
			orders(l, func(l []api.Batch) { expect(t, "errors "+strconv.FormatInt(int64(bits), 2), want, l...) })
		}
	}
}

// draw makes a batch of few names, times and values.
func draw(r *rand.Rand) api.Batch {
	b := of()
	for _, name := range []string{"a", "aa", "b", "c"} {
		if r.Intn(3) == 0 {
			continue
		}
		f := said(gauge(name), []string{"", "s", "ms"}[r.Intn(3)], []string{"", "x", "y"}[r.Intn(3)])
		for ms := range 4 {
			for _, l := range [][]api.Label{nil, labels("a", "1"), labels("a", "1", "b", "")} {
				p := at(int64(ms), int64(r.Intn(100)))
				p.Labels = l
				if r.Intn(3) == 0 {
					f.Points = append(f.Points, p)
				}
			}
		}
		slices.SortFunc(f.Points, point.Compare)
		b.Fams = append(b.Fams, f)
	}
	return b
}

// drawn makes up to n batches.
func drawn(r *rand.Rand, n int) []api.Batch {
	var l []api.Batch
	for range r.Intn(n + 1) {
		l = append(l, draw(r))
	}
	return l
}

func TestP11_2MergeDrawn(t *testing.T) {
	r := rand.New(rand.NewSource(112))
	for range 3000 {
		l := drawn(r, 6)
		want := api.OK
		for i := range l {
			switch r.Intn(60) {
			case 0:
				l[i].Tenant = "u"
			case 1:
				l[i].Tenant = "U"
			case 2:
				l[i].Fams = append(l[i].Fams, kind(api.Untyped, "x"))
			case 3:
				l[i].Fams = append(l[i].Fams, kind(api.Counter, "x"))
			}
			if !batch.Tenant(l[i].Tenant) {
				want = api.ErrForm
			}
		}
		if got := checkMerge(t, l...); (got == api.ErrForm) != (want == api.ErrForm) {
			t.Fatalf("%+v: %d", l, got)
		}
	}
}

// lacking is what the chapter says of Minus.
func lacking(b api.Batch, names []string) api.Batch {
	left := api.Batch{Tenant: b.Tenant}
	for _, f := range deep(b.Fams) {
		gone := false
		for _, name := range names {
			gone = gone || name == f.Name
		}
		if !gone {
			left.Fams = append(left.Fams, f)
		}
	}
	return left
}

// checkMinus holds Minus.
func checkMinus(t *testing.T, b api.Batch, names ...string) {
	t.Helper()
	was, asked := deepAll([]api.Batch{b})[0], slices.Clone(names)
	want := lacking(b, names)
	if got := merge.Minus(b, names...); !equal(got, want) {
		t.Fatalf("Minus(%+v, %q) = %+v", b, names, got)
	}
	if !equal(b, was) || !slices.Equal(names, asked) {
		t.Fatalf("Minus made %+v, %q of %+v, %q", b, names, was, asked)
	}
}

// All sets of names of all sets of families, in any order of the names.
func TestP11_2MinusEachSet(t *testing.T) {
	from := []api.Family{gauge("a", at(1, 1)), kind(api.Counter, "b"), said(gauge("aa", row(0, 3, 1)...), "s", "h"), gauge("é")}
	names := []string{"a", "aa", "b", "é", "A", ""}
	for some := range 1 << len(from) {
		b := of()
		for i, f := range from {
			if some>>i&1 == 1 {
				b.Fams = append(b.Fams, f)
			}
		}
		for bits := range 1 << len(names) {
			var l []string
			for i, name := range names {
				if bits>>i&1 == 1 {
					l = append(l, name)
				}
			}
			checkMinus(t, b, l...)
			slices.Reverse(l)
			checkMinus(t, b, append(l, l...)...)
		}
	}
}

// Minus asks nothing: neither that the batch is valid, nor that it has the names.
func TestP11_2MinusOfWhatIsNotValid(t *testing.T) {
	for _, tenant := range []string{"", "t", "T", strings.Repeat("a", 100)} {
		for _, names := range [][]string{nil, {}, {"a"}, {"x"}, {"a", "a"}, {""}, {"a", "", "f1000", "\xff"}} {
			all := append(bad("a"), gauge("b"), gauge(""), gauge("\xff"), gauge("a"), gauge("b", at(1, 1)))
			for _, l := range [][]api.Family{nil, {}, all, all[3:], sized("f", slices.Repeat([]int{9}, 60)...).Fams} {
				checkMinus(t, api.Batch{Tenant: tenant, Fams: l}, names...)
			}
		}
	}
	if got := merge.Minus(api.Batch{Tenant: "T", Fams: []api.Family{gauge("a"), gauge("a")}}, "a"); got.Tenant != "T" || len(got.Fams) != 0 {
		t.Errorf("Minus of all = %+v", got)
	}
}

// Points and labels are those of the family, not names of families.
func TestP11_2MinusLooksAtNamesAlone(t *testing.T) {
	p := api.Point{Labels: labels("b", "c")}
	b := of(said(gauge("a", p), "d", "e"))
	b.Tenant = "f"
	checkMinus(t, b, "b", "c", "d", "e", "f")
	if got := merge.Minus(b, "b", "c", "d", "e", "f", "gauge"); !equal(got, b) {
		t.Errorf("Minus = %+v", got)
	}
}

// merged is Merge of batches that can be merged.
func merged(t *testing.T, l ...api.Batch) api.Batch {
	t.Helper()
	got, e := merge.Merge(l...)
	if e != api.OK {
		t.Fatalf("Merge(%+v): %d", l, e)
	}
	return got
}

// Of batches of the same points, the last one is taken, in each order.
func TestP11_3LaterReplacesEarlier(t *testing.T) {
	var l []api.Batch
	for i := range 5 {
		l = append(l, of(gauge("a", row(0, 3, int64(i))...), kind(api.Histogram, "h", api.Point{Role: api.Count, Value: api.Dec{M: int64(i)}})))
	}
	orders(l, func(l []api.Batch) {
		for n := 1; n <= len(l); n++ {
			if got := merged(t, l[:n]...); !equal(got, l[n-1]) {
				t.Fatalf("Merge(%+v) = %+v", l[:n], got)
			}
		}
	})
}

// Where the later ones say nothing, what was said first stays.
func TestP11_3EarlierStays(t *testing.T) {
	a := of(said(gauge("a", at(1, 1), at(2, 2)), "s", "h"), gauge("b", at(1, 1)))
	for _, l := range [][]api.Batch{{of()}, {of(gauge("a"))}, {of(gauge("a", at(2, 2)))}, {of(), of(gauge("b")), of(gauge("a"), gauge("b"))}} {
		if got := merged(t, append([]api.Batch{a}, l...)...); !equal(got, a) {
			t.Errorf("%+v with %+v became %+v", a, l, got)
		}
	}
}

// Points that are different may come in any order, in families that are the same or not.
func TestP11_3OrderOfDifferentPoints(t *testing.T) {
	r := rand.New(rand.NewSource(113))
	for range 200 {
		whole := merged(t, draw(r))
		l := make([]api.Batch, 4)
		for i := range l {
			l[i] = of()
			for _, f := range whole.Fams {
				l[i].Fams = append(l[i].Fams, api.Family{Head: f.Head})
			}
		}
		for i, f := range whole.Fams {
			for _, p := range f.Points {
				part := &l[r.Intn(len(l))].Fams[i]
				part.Points = append(part.Points, p)
			}
		}
		orders(l, func(l []api.Batch) {
			if got := merged(t, l...); !equal(got, whole) {
				t.Fatalf("Merge(%+v) = %+v; want %+v", l, got, whole)
			}
		})
	}
}

// However the batches are grouped, what is merged is the same.
func TestP11_3Grouped(t *testing.T) {
	r := rand.New(rand.NewSource(114))
	for range 1000 {
		a, b, c := draw(r), draw(r), draw(r)
		want := merged(t, a, b, c)
		if got := merged(t, merged(t, a, b), c); !equal(got, want) {
			t.Fatalf("the first two first: %+v; want %+v", got, want)
		}
		if got := merged(t, a, merged(t, b, c)); !equal(got, want) {
			t.Fatalf("the last two first: %+v; want %+v", got, want)
		}
		if got := merged(t, a, b, c, c); !equal(got, want) {
			t.Fatalf("the last one twice: %+v; want %+v", got, want)
		}
		if got := merged(t, a, b, a); !equal(got, merged(t, b, a)) {
			t.Fatalf("the first one again: %+v", got)
		}
	}
}

// memory is all of the memory behind families: the families, their points, their labels.
type memory struct {
	fams   []api.Family
	points [][]api.Point
	labels [][]api.Label
}

// behind returns the memory that can be reached from families, with what is behind the
// ends of their lists.
func behind(l []api.Family) memory {
	m := memory{fams: l[:cap(l)]}
	for _, f := range m.fams {
		points := f.Points[:cap(f.Points)]
		m.points = append(m.points, points)
		for _, p := range points {
			m.labels = append(m.labels, p.Labels[:cap(p.Labels)])
		}
	}
	return m
}

// spoil overwrites all of it.
func (m memory) spoil() {
	for _, l := range m.labels {
		for i := range l {
			l[i] = api.Label{Name: "spoiled", Value: "s"}
		}
	}
	for _, l := range m.points {
		for i := range l {
			l[i] = api.Point{Role: 55}
		}
	}
	for i := range m.fams {
		m.fams[i] = gauge("spoiled")
	}
}

// given makes two batches of which families and points have one list, with more behind the
// ends of the lists; and all of the families in that memory.
func given() (a, b api.Batch, all []api.Family) {
	names := labels("a", "1", "b", "2", "c", "3", "d", "4")
	points := []api.Point{{}, at(1, 1), at(2, 2), at(3, 3), at(4, 4), {}, {}, {}}
	for i := 1; i < 5; i++ {
		points[i].Labels = names[:2]
	}
	points[5] = api.Point{Labels: names[1:3]}
	points[6] = api.Point{Labels: names[2:]}
	all = []api.Family{gauge("a", points[:4]...), gauge("c", points[:4]...), gauge("d", points[3:6]...), gauge("e", points[:4]...), gauge("b", points[:4]...), gauge("c", points[2:5]...), gauge("d", points[6:7]...), gauge("f", points[6:7]...), gauge("g", points...)}
	return of(all[:4]...), of(all[4:8]...), all
}

// makers are the calls, each with families as its answer.
func makers() map[string]func(a, b api.Batch) []api.Family {
	merging := func(l ...api.Batch) []api.Family {
		got, _ := merge.Merge(l...)
		return got.Fams
	}
	putting := func(a, b api.Family) []api.Family {
		got, ok := merge.Put(a, b)
		if !ok {
			return nil
		}
		return []api.Family{got}
	}
	return map[string]func(a, b api.Batch) []api.Family{
		"Merge":             func(a, b api.Batch) []api.Family { return merging(a, b) },
		"Merge of one":      func(a, b api.Batch) []api.Family { return merging(a) },
		"Merge of the same": func(a, b api.Batch) []api.Family { return merging(b, b, b) },
		"Merge with none":   func(a, b api.Batch) []api.Family { return merging(of(), a, of()) },
		"Put":               func(a, b api.Batch) []api.Family { return putting(a.Fams[1], b.Fams[1]) },
		"Put of the same":   func(a, b api.Batch) []api.Family { return putting(a.Fams[1], a.Fams[1]) },
		"Put with none":     func(a, b api.Batch) []api.Family { return putting(a.Fams[2], gauge("d")) },
		"Put to none":       func(a, b api.Batch) []api.Family { return putting(gauge("d"), a.Fams[2]) },
		"Minus":             func(a, b api.Batch) []api.Family { return merge.Minus(a, "c").Fams },
		"Minus the last":    func(a, b api.Batch) []api.Family { return merge.Minus(a, "e").Fams },
		"Minus nothing":     func(a, b api.Batch) []api.Family { return merge.Minus(a).Fams },
	}
}

// What is done with a result is seen neither in the arguments nor in another result, and
// what is done with the arguments isn't seen in a result.
func TestP11_2Memory(t *testing.T) {
	for name, call := range makers() {
		a, b, all := given()
		was := deep(all)
		first, second := call(a, b), call(a, b)
		want := deep(second)
		if len(want) == 0 || len(want[0].Points) < 3 {
			t.Fatalf("%s = %+v", name, second)
		}
		if !slices.EqualFunc(all, was, even) {
			t.Errorf("%s changes its arguments: %+v", name, all)
		}
		behind(first).spoil()
		if !slices.EqualFunc(all, was, even) {
			t.Errorf("%s shares memory with its arguments: %+v", name, all)
		}
		if !slices.EqualFunc(second, want, even) {
			t.Errorf("two results of %s share memory: %+v", name, second)
		}
		behind(all).spoil()
		if !slices.EqualFunc(second, want, even) {
			t.Errorf("%s keeps its arguments: %+v", name, second)
		}
	}
}

// No two lists of a result are one, even if those that were given were.
func TestP11_2ListsApart(t *testing.T) {
	for name, call := range makers() {
		a, b, _ := given()
		got := call(a, b)
		for i := range got {
			for j := range got[i].Points {
				before := deep(got)
				l := got[i].Points[j].Labels
				for k := range l[:cap(l)] {
					l[:cap(l)][k] = api.Label{Name: "spoiled"}
				}
				copy(before[i].Points[j].Labels, l)
				if !slices.EqualFunc(got, before, even) {
					t.Errorf("%s: labels of the point %d of %q are shared", name, j, got[i].Name)
				}
			}
			before := deep(got)
			l := got[i].Points
			for k := range l[:cap(l)] {
				l[:cap(l)][k] = api.Point{Role: 55}
			}
			copy(before[i].Points, l)
			if !slices.EqualFunc(got, before, even) {
				t.Errorf("%s: points of %q are shared", name, got[i].Name)
			}
		}
	}
}

// What is behind the ends of the lists that are given stays as it was.
func TestP11_2SpareCapacityStays(t *testing.T) {
	_, b, _ := given()
	store := append(make([]api.Family, 0, 40), gauge("a", at(1, 1)), gauge("h", at(1, 1)))
	points := append(make([]api.Point, 0, 40), at(1, 1))
	store[0].Points = points
	marked := store[:cap(store)]
	for i := 2; i < len(marked); i++ {
		marked[i] = gauge("behind", at(7, 7))
	}
	for i := 1; i < cap(points); i++ {
		points[:cap(points)][i] = at(8, 8)
	}
	was, were := deep(marked), slices.Clone(points[:cap(points)])
	merge.Merge(of(store...), b, of(gauge("a", at(0, 3), at(2, 3))))
	merge.Merge(b, of(store...), of(gauge("a", at(0, 3), at(2, 3))))
	merge.Put(store[0], gauge("a", at(0, 3), at(2, 3)))
	merge.Put(gauge("a", at(0, 3), at(2, 3)), store[0])
	merge.Minus(of(store...), "a")
	if !slices.EqualFunc(marked, was, even) || !slices.EqualFunc(points[:cap(points)], were, alike) {
		t.Errorf("%+v became %+v; %+v became %+v", was, marked, were, points[:cap(points)])
	}
	batches := make([]api.Batch, 4)
	for i := range batches {
		batches[i] = of(gauge("f"+strconv.Itoa(i), at(1, 1)))
	}
	before := deepAll(batches)
	merge.Merge(batches[:2]...)
	if !slices.EqualFunc(batches, before, equal) {
		t.Errorf("%+v became %+v", before, batches)
	}
}

// However many batches are merged, the answer comes.
func TestP11_2MergeOfVeryMany(t *testing.T) {
	var l []api.Batch
	for i := range 3000 {
		l = append(l, of(gauge("f"+strconv.Itoa(i), at(int64(i), 1)), gauge("g", at(int64(i), 1))))
	}
	if got, e := merge.Merge(l...); e != api.ErrLimit || !none(got) {
		t.Errorf("Merge = %+v, %d", got, e)
	}
	last := l[len(l)-1]
	l[len(l)-1] = of(kind(api.Untyped, "f0"))
	if got, e := merge.Merge(l...); e != api.ErrContext || !none(got) {
		t.Errorf("Merge = %+v, %d", got, e)
	}
	same := slices.Repeat([]api.Batch{last, l[0], last}, 1000)
	if got, e := merge.Merge(same...); e != api.OK || len(got.Fams) != 3 || batch.Points(got) != 4 {
		t.Errorf("Merge = %+v, %d", got, e)
	}
}
