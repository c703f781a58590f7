package point_test

import (
	"cmp"
	"math"
	"math/big"
	"math/rand"
	"slices"
	"strings"
	"testing"

	"polyglot/api"
	"polyglot/point"
)

const most = int64(api.MaxTime)

var (
	kinds  = []int{api.Untyped, api.Gauge, api.Counter, api.Histogram, api.Summary, -1, 5, 6, 256, 1 << 32, math.MaxInt, math.MinInt}
	roles  = []int{api.Plain, api.Bucket, api.Quantile, api.Count, api.Sum, -1, 5, 256, math.MaxInt, math.MinInt}
	labels = [][]api.Label{nil, of("a", ""), of("le", "1"), of("le", ""), of("quantile", "0.5"), of("a", "le", "b", "quantile"), of("le", "+Inf", "quantile", "1"), of("Le", "1", "le_", "2"), of("b", "", "a", ""), of("a", "1", "a", "1"), of("", "1"), of("a\n", "1"), of("a", "\xff"), row(8), row(9)}
	decs   = []api.Dec{{}, {M: 1}, {M: -1}, {M: 5, S: 1}, {M: -5, S: 1}, {M: 11, S: 1}, {M: 2}, {M: 1, S: 18}, {M: -1, S: 18}, {M: 1_000_000_000_000_000_001, S: 18}, {M: 999_999_999_999_999_999, S: 18}, {M: math.MaxInt64}, {M: -math.MaxInt64}, {M: math.MaxInt64, S: 18}, {M: 10, S: 1}, {M: 50, S: 2}, {M: 0, S: 1}, {M: 0, S: -1}, {M: 0, S: 19}, {M: 1, S: -1}, {M: 1, S: 19}, {M: math.MinInt64}, {M: math.MinInt64, S: 1}}
	times  = []int64{0, 1, -1, 1500, most, -most, most + 1, -most - 1, math.MaxInt64, math.MinInt64}
)

// of makes labels of names and values.
func of(l ...string) []api.Label {
	var all []api.Label
	for i := 0; i < len(l); i += 2 {
		all = append(all, api.Label{Name: l[i], Value: l[i+1]})
	}
	return all
}

// row makes n labels of ascending names.
func row(n int) []api.Label {
	var all []api.Label
	for i := range n {
		all = append(all, api.Label{Name: string(rune('a' + i)), Value: "v"})
	}
	return all
}

// rolesOf is what the chapter says of the roles of a kind.
func rolesOf(kind int) []int {
	return map[int][]int{api.Untyped: {api.Plain}, api.Gauge: {api.Plain}, api.Counter: {api.Plain}, api.Histogram: {api.Bucket, api.Count, api.Sum}, api.Summary: {api.Quantile, api.Count, api.Sum}}[kind]
}

func TestP8_1Roles(t *testing.T) {
	for _, kind := range append(slices.Clone(kinds), -2, -5, 7, 1<<32+3) {
		if got, want := point.Roles(kind), rolesOf(kind); !slices.Equal(got, want) {
			t.Errorf("Roles(%d) = %v; want %v", kind, got, want)
		}
	}
}

// What is done with the roles that are handed out is not seen in later ones.
func TestP8_1RolesAreNew(t *testing.T) {
	for _, kind := range kinds {
		first, second := point.Roles(kind), point.Roles(kind)
		first = first[:cap(first)]
		for i := range first {
			first[i] = 77
		}
		if third := point.Roles(kind); !slices.Equal(second, rolesOf(kind)) || !slices.Equal(third, rolesOf(kind)) {
			t.Errorf("Roles(%d) = %v, then %v", kind, second, third)
		}
	}
	first := point.Roles(api.Histogram)
	first[1] = api.Plain
	if point.Good(api.Histogram, api.Point{}) || !point.Good(api.Histogram, api.Point{Role: api.Count}) {
		t.Error("what Good says hangs on what was done with the roles of a histogram")
	}
}

// number returns what a decimal is, and whether it is in the one form of its number.
func number(d api.Dec) (*big.Rat, bool) {
	if d.S < 0 || d.S > 18 || d.M == math.MinInt64 || d.S > 0 && d.M%10 == 0 {
		return new(big.Rat), false
	}
	x := big.NewRat(d.M, 1)
	for range d.S {
		x.Quo(x, big.NewRat(10, 1))
	}
	return x, true
}

// goodLabels tells which of the lists of labels, by their indexes, are label's Good.
var goodLabels = []int{0, 1, 2, 3, 4, 5, 6, 7, 13}

// isGood is what the chapter says of a point, condition by condition. Its labels are
// those of the index.
func isGood(kind, list int, p api.Point) bool {
	value, ok := number(p.Value)
	bound, okBound := number(p.Bound)
	one := big.NewRat(1, 1)
	names := map[string]bool{}
	for _, x := range labels[list] {
		names[x.Name] = true
	}
	switch {
	case !slices.Contains(rolesOf(kind), p.Role):
		return false
	case !slices.Contains(goodLabels, list):
		return false
	case p.Inf && p.Role != api.Bucket:
		return false
	case p.Role == api.Bucket && !p.Inf && !okBound:
		return false
	case p.Role == api.Bucket && p.Inf && p.Bound != api.Dec{}:
		return false
	case p.Role == api.Quantile && (!okBound || bound.Sign() < 0 || bound.Cmp(one) > 0):
		return false
	case p.Role != api.Bucket && p.Role != api.Quantile && p.Bound != api.Dec{}:
		return false
	case !ok:
		return false
	case value.Sign() < 0 && (kind == api.Counter || p.Role == api.Bucket || p.Role == api.Count):
		return false
	case p.Timed && (p.Time > most || p.Time < -most):
		return false
	case !p.Timed && p.Time != 0:
		return false
	}
	return !(p.Role == api.Bucket && names["le"]) && !(p.Role == api.Quantile && names["quantile"])
}

// checkGood holds Good of a point with the labels of the index.
func checkGood(t *testing.T, kind, list int, p api.Point) {
	t.Helper()
	p.Labels = labels[list]
	if got, want := point.Good(kind, p), isGood(kind, list, p); got != want {
		t.Fatalf("Good(%d, %+v) = %v", kind, p, got)
	}
}

// Each kind and role, with all bounds and values.
func TestP8_1GoodNumbers(t *testing.T) {
	for _, kind := range kinds {
		for _, role := range roles {
			for _, inf := range []bool{false, true} {
				for _, bound := range decs {
					for _, value := range decs {
						checkGood(t, kind, 0, api.Point{Role: role, Inf: inf, Bound: bound, Value: value})
					}
				}
			}
		}
	}
}

// Each kind and role, with all labels and times.
func TestP8_1GoodLabelsAndTimes(t *testing.T) {
	for _, kind := range kinds {
		for _, role := range roles {
			for list := range labels {
				for _, timed := range []bool{false, true} {
					for _, at := range times {
						checkGood(t, kind, list, api.Point{Role: role, Timed: timed, Time: at})
						checkGood(t, kind, list, api.Point{Role: role, Inf: true, Timed: timed, Time: at, Value: api.Dec{M: 3}})
					}
				}
			}
		}
	}
}

func TestP8_1GoodDrawn(t *testing.T) {
	r := rand.New(rand.NewSource(81))
	good := 0
	for range 60000 {
		kind, list := kinds[r.Intn(5)], r.Intn(7)
		p := api.Point{Role: r.Intn(5), Inf: r.Intn(3) == 0, Timed: r.Intn(2) == 0, Value: decs[r.Intn(len(decs))]}
		if r.Intn(2) == 0 {
			p.Bound = decs[r.Intn(len(decs))]
		}
		if p.Timed || r.Intn(8) == 0 {
			p.Time = times[r.Intn(len(times))]
		}
		checkGood(t, kind, list, p)
		if isGood(kind, list, p) {
			good++
		}
	}
	if good < 1000 {
		t.Errorf("only %d of the points drawn are good", good)
	}
}

func TestP8_1GoodNamed(t *testing.T) {
	long := strings.Repeat("x", 61)
	for _, c := range []struct {
		what string
		kind int
		p    api.Point
		want bool
	}{
		{"an empty gauge", api.Gauge, api.Point{}, true},
		{"a gauge's sum", api.Gauge, api.Point{Role: api.Sum}, false},
		{"a gauge below 0", api.Gauge, api.Point{Value: api.Dec{M: -1}}, true},
		{"an untyped one below 0", api.Untyped, api.Point{Value: api.Dec{M: -1}}, true},
		{"a counter below 0", api.Counter, api.Point{Value: api.Dec{M: -1, S: 18}}, false},
		{"a summary's plain one", api.Summary, api.Point{}, false},
		{"a histogram's quantile", api.Histogram, api.Point{Role: api.Quantile}, false},
		{"a bucket at -0.5", api.Histogram, api.Point{Role: api.Bucket, Bound: api.Dec{M: -5, S: 1}}, true},
		{"a bucket at 0.50", api.Histogram, api.Point{Role: api.Bucket, Bound: api.Dec{M: 50, S: 2}}, false},
		{"a bucket without a bound", api.Histogram, api.Point{Role: api.Bucket, Inf: true}, true},
		{"a bucket with and without a bound", api.Histogram, api.Point{Role: api.Bucket, Inf: true, Bound: api.Dec{M: 1}}, false},
		{"a bucket without a bound, but with a scale", api.Histogram, api.Point{Role: api.Bucket, Inf: true, Bound: api.Dec{S: 1}}, false},
		{"a count without a bound", api.Histogram, api.Point{Role: api.Count, Inf: true}, false},
		{"a count with a bound", api.Histogram, api.Point{Role: api.Count, Bound: api.Dec{M: 1}}, false},
		{"a sum with a bound of a wrong form of 0", api.Summary, api.Point{Role: api.Sum, Bound: api.Dec{S: 2}}, false},
		{"the quantile 0", api.Summary, api.Point{Role: api.Quantile}, true},
		{"the quantile 1", api.Summary, api.Point{Role: api.Quantile, Bound: api.Dec{M: 1}}, true},
		{"the least quantile beyond 1", api.Summary, api.Point{Role: api.Quantile, Bound: api.Dec{M: 1_000_000_000_000_000_001, S: 18}}, false},
		{"the greatest quantile below 0", api.Summary, api.Point{Role: api.Quantile, Bound: api.Dec{M: -1, S: 18}}, false},
		{"a quantile of a wrong form of 0", api.Summary, api.Point{Role: api.Quantile, Bound: api.Dec{S: 3}}, false},
		{"a quantile below 0 at a bound", api.Summary, api.Point{Role: api.Quantile, Bound: api.Dec{M: 9, S: 1}, Value: api.Dec{M: -7}}, true},
		{"a quantile without a bound", api.Summary, api.Point{Role: api.Quantile, Inf: true}, false},
		{"a sum below 0", api.Summary, api.Point{Role: api.Sum, Value: api.Dec{M: -1}}, true},
		{"a count below 0", api.Summary, api.Point{Role: api.Count, Value: api.Dec{M: -1}}, false},
		{"a bucket below 0", api.Histogram, api.Point{Role: api.Bucket, Value: api.Dec{M: -1}}, false},
		{"a value that is not valid", api.Gauge, api.Point{Value: api.Dec{M: 10, S: 1}}, false},
		{"a time of an untimed one", api.Gauge, api.Point{Time: 1}, false},
		{"the time 0", api.Gauge, api.Point{Timed: true}, true},
		{"the first time", api.Gauge, api.Point{Timed: true, Time: -most}, true},
		{"beyond the last time", api.Gauge, api.Point{Timed: true, Time: most + 1}, false},
		{"a bucket's le", api.Histogram, api.Point{Role: api.Bucket, Labels: of("a", "", "le", "")}, false},
		{"a bucket's quantile", api.Histogram, api.Point{Role: api.Bucket, Labels: of("quantile", "")}, true},
		{"a count's le", api.Histogram, api.Point{Role: api.Count, Labels: of("le", "")}, true},
		{"a quantile's quantile", api.Summary, api.Point{Role: api.Quantile, Labels: of("quantile", "")}, false},
		{"a quantile's le", api.Summary, api.Point{Role: api.Quantile, Labels: of("le", "")}, true},
		{"a gauge's le and quantile", api.Gauge, api.Point{Labels: of("le", "", "quantile", "")}, true},
		{"a long name", api.Gauge, api.Point{Labels: of(long, "")}, false},
		{"a long value", api.Gauge, api.Point{Labels: of("a", long)}, false},
	} {
		if got := point.Good(c.kind, c.p); got != c.want {
			t.Errorf("%s: %v", c.what, got)
		}
	}
}

// The fields in the order in which they are compared, their values in ascending order.
// Those of one row of bounds are equal.
var (
	listsUp  = [][]api.Label{nil, of("", "z"), of("\x00", ""), of("A", ""), of("a", ""), of("a", "", "a", ""), of("a", "", "b", ""), of("a", "1"), of("a", "1", "b", "1"), of("a", "10"), of("a", "2"), of("aa", ""), of("b", ""), of("b", "", "a", ""), row(8)[1:], of("\xff", "")}
	timesUp  = []int64{math.MinInt64, -most - 1, -most, -1, 0, 1, most, most + 1, math.MaxInt64}
	rolesUp  = []int{math.MinInt, -1, api.Plain, api.Bucket, api.Quantile, api.Count, api.Sum, 5, math.MaxInt}
	boundsUp = [][]api.Dec{{{M: -math.MaxInt64}}, {{M: -1}}, {{M: -5, S: 1}}, {{M: -1, S: 18}}, {{}, {M: 10, S: 1}, {M: -1, S: -1}, {M: 7, S: 19}, {M: math.MinInt64}, {S: 1}}, {{M: 1, S: 18}}, {{M: 5, S: 1}}, {{M: 25, S: 1}}, {{M: 3}}, {{M: 12}}, {{M: math.MaxInt64 - 1}}, {{M: math.MaxInt64}}}
)

// ranked is a point, and the places of its fields among those that they are of.
type ranked struct {
	api.Point
	ranks [6]int
}

func flag(b bool) int {
	if b {
		return 1
	}
	return 0
}

// grid returns all points of some places of each field.
func grid(lists, timesAt, rolesAt, bounds []int) []ranked {
	var all []ranked
	for _, l := range lists {
		for _, a := range timesAt {
			for _, r := range rolesAt {
				for _, b := range bounds {
					for f := range 4 {
						timed, inf := f&1 == 1, f&2 == 2
						for _, bound := range boundsUp[b] {
							p := api.Point{Labels: listsUp[l], Timed: timed, Time: timesUp[a], Role: rolesUp[r], Inf: inf, Bound: bound}
							all = append(all, ranked{p, [6]int{l, flag(timed), a, r, flag(inf), b}})
						}
					}
				}
			}
		}
	}
	return all
}

// whole returns all places of n.
func whole(n int) []int {
	var all []int
	for i := range n {
		all = append(all, i)
	}
	return all
}

// checkPairs holds Compare of all pairs: the first field that differs tells.
func checkPairs(t *testing.T, all []ranked) {
	t.Helper()
	for _, p := range all {
		for _, q := range all {
			if got, want := point.Compare(p.Point, q.Point), slices.Compare(p.ranks[:], q.ranks[:]); got != want {
				t.Fatalf("Compare(%+v, %+v) = %d; want %d", p.Point, q.Point, got, want)
			}
		}
	}
}

// Few places of each field together, so that each is before each that is compared later.
func TestP8_2CompareFields(t *testing.T) {
	checkPairs(t, grid([]int{0, 4, 7}, []int{3, 4, 6}, []int{2, 3, 4}, []int{1, 4, 6}))
}

// All places of a field, with few of the others.
func TestP8_2CompareEachField(t *testing.T) {
	checkPairs(t, grid(whole(len(listsUp)), []int{4, 5}, []int{2, 3}, []int{5, 6}))
	checkPairs(t, grid([]int{0, 4}, whole(len(timesUp)), []int{2, 6}, []int{2, 5}))
	checkPairs(t, grid([]int{0, 8}, []int{2, 5}, whole(len(rolesUp)), []int{3, 7}))
	checkPairs(t, grid([]int{0, 15}, []int{4, 6}, []int{3, 4}, whole(len(boundsUp))))
}

func TestP8_2CompareNamed(t *testing.T) {
	up := []struct {
		what string
		p    api.Point
	}{
		{"untimed, plain", api.Point{}},
		{"a bucket at -1", api.Point{Role: api.Bucket, Bound: api.Dec{M: -1}}},
		{"a bucket at 0.5", api.Point{Role: api.Bucket, Bound: api.Dec{M: 5, S: 1}}},
		{"a bucket at 0.75", api.Point{Role: api.Bucket, Bound: api.Dec{M: 75, S: 2}}},
		{"a bucket at 3", api.Point{Role: api.Bucket, Bound: api.Dec{M: 3}}},
		{"a bucket without a bound", api.Point{Role: api.Bucket, Inf: true}},
		{"a count", api.Point{Role: api.Count}},
		{"a sum", api.Point{Role: api.Sum}},
		{"timed before 0", api.Point{Timed: true, Time: -2}},
		{"timed before 0, a sum", api.Point{Timed: true, Time: -2, Role: api.Sum}},
		{"timed at 0", api.Point{Timed: true}},
		{"timed at 1, a bucket", api.Point{Timed: true, Time: 1, Role: api.Bucket, Inf: true}},
		{"with a label", api.Point{Labels: of("a", "1")}},
		{"with a label, timed", api.Point{Labels: of("a", "1"), Timed: true, Time: -9}},
		{"with two labels", api.Point{Labels: of("a", "1", "b", "")}},
		{"with a greater value", api.Point{Labels: of("a", "2")}},
	}
	for i, a := range up {
		for j, b := range up {
			if got, want := point.Compare(a.p, b.p), cmp.Compare(i, j); got != want {
				t.Errorf("%s, %s: %d; want %d", a.what, b.what, got, want)
			}
		}
	}
}

// A list of no labels is one, whether there is a slice or none.
func TestP8_2CompareEmptyLists(t *testing.T) {
	p, q := api.Point{Labels: nil}, api.Point{Labels: []api.Label{}}
	if point.Compare(p, q) != 0 || !point.Same(p, q) || !point.Good(api.Gauge, q) {
		t.Error("a point with an empty list is another one than a point with none")
	}
}

func TestP8_2Same(t *testing.T) {
	all := grid([]int{0, 4}, []int{4, 5}, []int{2, 3}, []int{4, 6})
	values := []api.Dec{{}, {M: 1}, {M: -1}, {M: 1, S: 1}, {M: math.MaxInt64, S: 18}}
	for _, p := range all {
		for _, q := range all {
			for _, v := range values {
				for _, w := range values {
					p.Value, q.Value = v, w
					if got, want := point.Same(p.Point, q.Point), p.ranks == q.ranks && v == w; got != want {
						t.Fatalf("Same(%+v, %+v) = %v", p.Point, q.Point, got)
					}
				}
			}
		}
	}
}

// The labels are compared by what they are, not by where they lie.
func TestP8_2SameLabelsElsewhere(t *testing.T) {
	for _, l := range listsUp {
		p, q := api.Point{Labels: l}, api.Point{Labels: append(make([]api.Label, 0, 20), l...)}
		if point.Compare(p, q) != 0 || !point.Same(p, q) {
			t.Errorf("%q is taken for another list where it lies elsewhere", l)
		}
	}
}

// No value makes of a point another one, and none makes two points one.
func TestP8_3ValueIsNotIdentity(t *testing.T) {
	all := grid([]int{0, 7}, []int{4, 6}, []int{2, 3}, []int{2, 4})
	for _, p := range all {
		for _, q := range all {
			want := point.Compare(p.Point, q.Point)
			for i, v := range decs {
				p.Value, q.Value = v, decs[len(decs)-1-i]
				if got := point.Compare(p.Point, q.Point); got != want {
					t.Fatalf("Compare(%+v, %+v) = %d; with other values %d", p.Point, q.Point, got, want)
				}
				q.Value = v
				if got := point.Same(p.Point, q.Point); got != (want == 0) {
					t.Fatalf("Same(%+v, %+v) = %v", p.Point, q.Point, got)
				}
			}
		}
	}
}

func TestP8_3ValueIsSeen(t *testing.T) {
	for _, p := range grid([]int{0, 7}, []int{4, 6}, []int{2, 3}, []int{2, 4}) {
		for _, v := range decs {
			for _, w := range decs {
				p.Value = v
				q := p.Point
				q.Value = w
				if point.Compare(p.Point, q) != 0 || point.Same(p.Point, q) != (v == w) {
					t.Fatalf("%+v with the value %v: Compare %d, Same %v", p.Point, w, point.Compare(p.Point, q), point.Same(p.Point, q))
				}
			}
		}
	}
}

// No call changes the labels that it is given, nor what is behind their end.
func TestLabelsStayAsTheyAre(t *testing.T) {
	room := of("c", "3", "a", "1", "le", "x", "b", "2", "z", "9")
	before := slices.Clone(room)
	p := api.Point{Labels: room[:3], Role: api.Bucket}
	q := api.Point{Labels: room[1:2], Role: api.Bucket}
	for _, kind := range kinds {
		point.Good(kind, p)
		point.Good(kind, q)
	}
	point.Compare(p, q)
	point.Same(p, q)
	point.Same(p, p)
	if !slices.Equal(room, before) {
		t.Errorf("%q became %q", before, room)
	}
}
