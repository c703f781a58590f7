package legal_test

import (
	"math"
	"math/rand"
	"slices"
	"strconv"
	"strings"
	"testing"

	"polyglot/api"
	"polyglot/batch"
	"polyglot/charset"
	"polyglot/escape"
	"polyglot/legal"
	"polyglot/lossy"
	"polyglot/point"
)

// formats and modes are all there are.
var (
	formats = []int{api.Open, api.Line, api.Dots, api.Stat}
	modes   = []int{api.Escaped, api.Lossy}
)

// strays are formats and modes of which at least one does not exist.
var strays = [][2]int{
	{0, api.Escaped}, {0, api.Lossy}, {5, api.Escaped}, {5, api.Lossy}, {-1, api.Escaped}, {-1, api.Lossy},
	{api.Open, 2}, {api.Line, 2}, {api.Dots, -1}, {api.Stat, -1}, {0, 2}, {5, -1},
	{math.MaxInt, 0}, {math.MinInt, 1}, {api.Open, math.MaxInt}, {api.Stat, math.MinInt}, {256 + api.Open, 0}, {api.Open, 256},
}

// rename is what becomes of a name in a mode.
func rename(proto, mode, what int, s string) string {
	if mode == api.Lossy {
		return lossy.Name(proto, what, s)
	}
	return escape.Escape(proto, what, s)
}

// labels makes the labels of these names, whose values are the names.
func labels(names ...string) []api.Label {
	var all []api.Label
	for _, s := range names {
		all = append(all, api.Label{Name: s, Value: s})
	}
	return all
}

// gauge makes a gauge with one point for each row of names of labels, apart by spaces.
// What a point is worth tells where it stood.
func gauge(name string, rows ...string) api.Family {
	f := api.Family{Head: api.Head{Name: name, Kind: api.Gauge}}
	for i, row := range rows {
		f.Points = append(f.Points, api.Point{Labels: labels(strings.Fields(row)...), Value: api.Dec{M: int64(i)}})
	}
	return f
}

// of makes a batch of the tenant t, as the families are given.
func of(fams ...api.Family) api.Batch { return api.Batch{Tenant: "t", Fams: fams} }

// inOrder makes a valid batch of the tenant t of families in any order.
func inOrder(t *testing.T, fams ...api.Family) api.Batch {
	t.Helper()
	all := deep(of(fams...))
	for _, f := range all.Fams {
		for _, p := range f.Points {
			slices.SortFunc(p.Labels, byName)
		}
	}
	b, ok := batch.Of("t", all.Fams...)
	if !ok {
		t.Fatalf("no batch: %v", show(all))
	}
	return b
}

func byName(a, b api.Label) int { return strings.Compare(a.Name, b.Name) }

// deep copies a batch.
func deep(b api.Batch) api.Batch {
	all := api.Batch{Tenant: b.Tenant}
	for _, f := range b.Fams {
		g := api.Family{Head: f.Head}
		for _, p := range f.Points {
			p.Labels = append([]api.Label(nil), p.Labels...)
			g.Points = append(g.Points, p)
		}
		all.Fams = append(all.Fams, g)
	}
	return all
}

// equal tells whether two batches have the same fields, whatever their meaning.
func equal(a, b api.Batch) bool {
	return a.Tenant == b.Tenant && slices.EqualFunc(a.Fams, b.Fams, func(f, g api.Family) bool {
		return f.Head == g.Head && slices.EqualFunc(f.Points, g.Points, func(p, q api.Point) bool {
			return slices.Equal(p.Labels, q.Labels) && p.Role == q.Role && p.Inf == q.Inf && p.Bound == q.Bound && p.Value == q.Value && p.Timed == q.Timed && p.Time == q.Time
		})
	})
}

// blank tells whether b is the zero batch.
func blank(b api.Batch) bool { return b.Tenant == "" && len(b.Fams) == 0 }

// show tells the names of a batch, and which point had them.
func show(b api.Batch) string {
	var all []string
	for _, f := range b.Fams {
		all = append(all, f.Name)
		for _, p := range f.Points {
			s := strconv.FormatInt(p.Value.M, 10)
			for _, x := range p.Labels {
				s += "," + x.Name + "=" + x.Value
			}
			all = append(all, s)
		}
	}
	return strings.Join(all, " ")
}

// namesOf returns the names of a batch: of its families, of its labels.
func namesOf(b api.Batch) (fams, labs []string) {
	for _, f := range b.Fams {
		fams = append(fams, f.Name)
		for _, p := range f.Points {
			for _, x := range p.Labels {
				labs = append(labs, x.Name)
			}
		}
	}
	return fams, labs
}

// turned is b with other names, everything in its order, whether it is valid or not.
func turned(b api.Batch, name func(what int, s string) string) api.Batch {
	all := deep(b)
	for i, f := range all.Fams {
		all.Fams[i].Head.Name = name(api.OfFamily, f.Name)
		for _, p := range f.Points {
			for k, x := range p.Labels {
				p.Labels[k].Name = name(api.OfLabel, x.Name)
			}
			slices.SortStableFunc(p.Labels, byName)
		}
		slices.SortStableFunc(f.Points, point.Compare)
	}
	slices.SortStableFunc(all.Fams, func(f, g api.Family) int { return strings.Compare(f.Name, g.Name) })
	return all
}

// to is the chapter's To, read word by word.
func to(proto, mode int, b api.Batch) (api.Batch, api.Clash, api.Errno) {
	if batch.Check(b) != api.OK || !slices.Contains(formats, proto) || !slices.Contains(modes, mode) {
		return api.Batch{}, api.Clash{}, api.ErrForm
	}
	fams, labs := namesOf(b)
	if mode == api.Lossy {
		if clash, ok := lossy.Collide(proto, api.OfFamily, fams...); ok {
			return api.Batch{}, clash, api.ErrClash
		}
		if clash, ok := lossy.Collide(proto, api.OfLabel, labs...); ok {
			return api.Batch{}, clash, api.ErrClash
		}
	}
	all := turned(b, func(what int, s string) string { return rename(proto, mode, what, s) })
	fams, labs = namesOf(all)
	if slices.ContainsFunc(append(fams, labs...), func(s string) bool { return len(s) > api.MaxName }) {
		return api.Batch{}, api.Clash{}, api.ErrLimit
	}
	return all, api.Clash{}, api.OK
}

// from is the chapter's From, read word by word.
func from(proto, mode int, b api.Batch) (api.Batch, api.Errno) {
	if batch.Check(b) != api.OK || !slices.Contains(formats, proto) || !slices.Contains(modes, mode) {
		return api.Batch{}, api.ErrForm
	}
	if mode == api.Lossy {
		return b, api.OK
	}
	all := turned(b, func(what int, s string) string { return escape.Back(proto, what, s) })
	if batch.Check(all) != api.OK {
		return api.Batch{}, api.ErrForm
	}
	return all, api.OK
}

// checkTo holds To against the chapter, and its argument against what it was.
func checkTo(t *testing.T, proto, mode int, b api.Batch) (api.Batch, api.Errno) {
	t.Helper()
	was := deep(b)
	want, wantClash, wantErr := to(proto, mode, b)
	got, clash, e := legal.To(proto, mode, b)
	if !equal(got, want) || clash != wantClash || e != wantErr {
		t.Errorf("To(%d, %d) of %s: %s, %q, %d; not %s, %q, %d", proto, mode, show(was), show(got), clash, e, show(want), wantClash, wantErr)
	}
	if !equal(b, was) {
		t.Errorf("To(%d, %d) changed %s: %s", proto, mode, show(was), show(b))
	}
	return got, e
}

// checkFrom holds From against the chapter, and its argument against what it was.
func checkFrom(t *testing.T, proto, mode int, b api.Batch) (api.Batch, api.Errno) {
	t.Helper()
	was := deep(b)
	want, wantErr := from(proto, mode, b)
	got, e := legal.From(proto, mode, b)
	if !equal(got, want) || e != wantErr {
		t.Errorf("From(%d, %d) of %s: %s, %d; not %s, %d", proto, mode, show(was), show(got), e, show(want), wantErr)
	}
	if !equal(b, was) {
		t.Errorf("From(%d, %d) changed %s: %s", proto, mode, show(was), show(b))
	}
	return got, e
}

// becomes tells whether To answers a batch of these names.
func becomes(t *testing.T, proto, mode int, want string, b api.Batch) {
	t.Helper()
	if got, e := checkTo(t, proto, mode, b); e != api.OK || show(got) != want {
		t.Errorf("To(%d, %d) of %s: %s, %d; not %s", proto, mode, show(b), show(got), e, want)
	}
}

// refusesTo tells whether To answers an error alone.
func refusesTo(t *testing.T, proto, mode int, want api.Errno, b api.Batch) {
	t.Helper()
	got, clash, e := legal.To(proto, mode, b)
	if e != want || clash != (api.Clash{}) || !blank(got) {
		t.Errorf("To(%d, %d) of %s: %s, %q, %d; not %d", proto, mode, show(b), show(got), clash, e, want)
	}
}

// clashes tells whether To answers ErrClash with that clash.
func clashes(t *testing.T, proto int, a, b string, in api.Batch) {
	t.Helper()
	got, clash, e := legal.To(proto, api.Lossy, in)
	if e != api.ErrClash || clash != (api.Clash{A: a, B: b}) || !blank(got) {
		t.Errorf("To(%d) of %s: %s, %q, %d; not %q, %q", proto, show(in), show(got), clash, e, a, b)
	}
}

// comesBack tells whether From answers a batch of these names.
func comesBack(t *testing.T, proto, mode int, want string, b api.Batch) {
	t.Helper()
	if got, e := checkFrom(t, proto, mode, b); e != api.OK || show(got) != want {
		t.Errorf("From(%d, %d) of %s: %s, %d; not %s", proto, mode, show(b), show(got), e, want)
	}
}

// refusesFrom tells whether From answers an error alone.
func refusesFrom(t *testing.T, proto, mode int, b api.Batch) {
	t.Helper()
	if got, e := legal.From(proto, mode, b); e != api.ErrForm || !blank(got) {
		t.Errorf("From(%d, %d) of %s: %s, %d", proto, mode, show(b), show(got), e)
	}
}

// invalid are batches that are not valid, each for a reason of its own.
func invalid() []api.Batch {
	long := strings.Repeat("a", api.MaxName+1)
	many := gauge("a", "1 2 3 4 5 6 7 8 9")
	return []api.Batch{
		{},
		{Tenant: "T"},
		{Tenant: "", Fams: []api.Family{gauge("a")}},
		{Tenant: strings.Repeat("t", 17)},
		of(gauge("b"), gauge("a")),
		of(gauge("a"), gauge("a")),
		of(gauge("")),
		of(gauge(long)),
		of(gauge("\xff")),
		of(gauge("a\n")),
		of(gauge("a", "b a")),
		of(gauge("a", "a a")),
		of(gauge("a", "b", "a")),
		of(gauge("a", "b", "b")),
		of(gauge("a", long)),
		of(gauge("a", "\xff")),
		of(many),
		of(api.Family{Head: api.Head{Name: "a", Kind: 5}}),
		of(api.Family{Head: api.Head{Name: "a", Unit: "\xff"}}),
		of(api.Family{Head: api.Head{Name: "a"}, Points: []api.Point{{Role: api.Sum}}}),
	}
}

// large are batches that are valid but for their size.
func large() []api.Batch {
	var fams []api.Family
	for i := range api.MaxFams + 1 {
		fams = append(fams, gauge("f"+strconv.Itoa(100+i)))
	}
	f := gauge("a")
	for i := range api.MaxPoints + 1 {
		f.Points = append(f.Points, api.Point{Timed: true, Time: int64(i)})
	}
	return []api.Batch{of(fams...), of(f)}
}

// full is a batch at both limits, with names that are legal nowhere.
func full() api.Batch {
	b := api.Batch{Tenant: "t"}
	for i := range api.MaxFams {
		f := gauge("\\" + strconv.Itoa(100+i))
		for j := range api.MaxPoints / api.MaxFams {
			p := api.Point{Timed: true, Time: int64(j)}
			for k := range api.MaxLabels {
				p.Labels = append(p.Labels, api.Label{Name: "\\" + strconv.Itoa(k), Value: "v"})
			}
			f.Points = append(f.Points, p)
		}
		b.Fams = append(b.Fams, f)
	}
	return b
}

// every has families of each kind, with all fields of heads and points in use, in the
// order in which they are valid.
func every() api.Batch {
	dec := func(m int64, s int) api.Dec { return api.Dec{M: m, S: s} }
	fam := func(name string, kind int, l ...api.Point) api.Family {
		return api.Family{Head: api.Head{Name: name, Kind: kind, Unit: "un.it_x", Help: "he.lp é"}, Points: l}
	}
	l := func() []api.Label {
		return []api.Label{{Name: "l.1", Value: "v.1"}, {Name: "l_", Value: ""}, {Name: "é", Value: "_x2e"}}
	}
	return api.Batch{Tenant: "t-1", Fams: []api.Family{
		fam("a.c", api.Counter, api.Point{Value: dec(5, 1)}, api.Point{Labels: l(), Value: dec(7, 0), Timed: true, Time: -9}),
		fam("a.g", api.Gauge, api.Point{Labels: l(), Value: dec(-5, 1), Timed: true, Time: 4}),
		fam("a.h", api.Histogram,
			api.Point{Labels: l(), Role: api.Bucket, Bound: dec(-15, 1), Value: dec(1, 0)},
			api.Point{Labels: l(), Role: api.Bucket, Inf: true, Value: dec(2, 0)},
			api.Point{Labels: l(), Role: api.Count, Value: dec(2, 0)},
			api.Point{Labels: l(), Role: api.Sum, Value: dec(-2, 0)}),
		fam("a.s", api.Summary,
			api.Point{Labels: l(), Role: api.Quantile, Bound: dec(5, 1), Value: dec(1, 0)},
			api.Point{Labels: l(), Role: api.Count, Value: dec(3, 0)}),
		fam("a.u", api.Untyped, api.Point{Labels: l(), Value: dec(1, 18), Timed: true, Time: api.MaxTime}),
		fam("é", api.Untyped),
	}}
}

// drawn gives f valid batches; most of their names are built of some pieces.
func drawn(t *testing.T, pieces []string, f func(b api.Batch)) {
	t.Helper()
	r := rand.New(rand.NewSource(15))
	name := func() string {
		s := pieces[r.Intn(len(pieces))]
		for range r.Intn(4) {
			s += pieces[r.Intn(len(pieces))]
		}
		return s
	}
	valid := 0
	for range 6000 {
		var fams []api.Family
		for range r.Intn(4) {
			f := gauge(name())
			for i := range r.Intn(4) {
				p := api.Point{Value: api.Dec{M: int64(1 + i)}}
				for range r.Intn(4) {
					p.Labels = append(p.Labels, api.Label{Name: name(), Value: pieces[r.Intn(len(pieces))]})
				}
				slices.SortFunc(p.Labels, byName)
				f.Points = append(f.Points, p)
			}
			fams = append(fams, f)
		}
		if b, ok := batch.Of("t", fams...); ok {
			valid++
			f(b)
		}
	}
	if valid < 500 {
		t.Errorf("only %d batches are valid", valid)
	}
}

// loose and marks are pieces of names: of those that are legal in some formats, of those
// that come back to others.
var (
	loose = []string{"a", "b", "x", "_", ".", "-", ":", "#", " ", "1", "\\", "é", "le"}
	marks = []string{"a", "_", "x", "_x2e", "_x2d", "_x41", "_x0a", "_xc3_xa9", "_xff", "_x5fx", ".", "_x", "2e"}
)

func TestP15_1Example(t *testing.T) {
	clashes(t, api.Open, "a-b", "a.b", of(gauge("a-b"), gauge("a.b")))
}

// row is a case of names: what To or From makes of the families of l, in a format.
type row struct {
	proto int
	want  string
	l     []api.Family
}

func TestP15_1Escaped(t *testing.T) {
	for _, c := range []row{
		{api.Open, "", nil},
		{api.Open, "a 0,b=b,c_9=c_9", []api.Family{gauge("a", "b c_9")}},
		{api.Open, "_x31a a:b", []api.Family{gauge("1a"), gauge("a:b")}},
		{api.Open, "a:b 0,a_x3ab=a:b", []api.Family{gauge("a:b", "a:b")}},
		{api.Open, "_x5fx2e _x5fxa", []api.Family{gauge("_x2e"), gauge("_xa")}},
		{api.Open, "_xc3_xa9 0,_xc3_xa9=é", []api.Family{gauge("é", "é")}},
		{api.Line, "_x23a 0,#=#,_x5c=\\", []api.Family{gauge("#a", "# \\")}},
		{api.Line, "a b,=\"~", []api.Family{gauge("a b,=\"~")}},
		{api.Dots, "_x2ea a.b 0,a_x2eb=a.b a_x2e", []api.Family{gauge(".a"), gauge("a."), gauge("a.b", "a.b")}},
		{api.Stat, "a.b 0,_x3a=:,a.b=a.b a_x3ab", []api.Family{gauge("a.b", "a.b :"), gauge("a:b")}},
	} {
		becomes(t, c.proto, api.Escaped, c.want, inOrder(t, c.l...))
	}
}

func TestP15_1Lossy(t *testing.T) {
	for _, c := range []row{
		{api.Open, "", nil},
		{api.Open, "a 0,b=b,c_9=c_9", []api.Family{gauge("a", "b c_9")}},
		{api.Open, "_a a:b", []api.Family{gauge("1a"), gauge("a:b")}},
		{api.Open, "a:b 0,a_b=a:b", []api.Family{gauge("a:b", "a:b")}},
		{api.Open, "_x2e _xa", []api.Family{gauge("_x2e"), gauge("_xa")}},
		{api.Open, "__ 0,__=é", []api.Family{gauge("é", "é")}},
		{api.Line, "_a 0,#=#,_=\\", []api.Family{gauge("#a", "# \\")}},
		{api.Dots, "_a a.b 0,a_b=a.b a_", []api.Family{gauge(".a"), gauge("a."), gauge("a.b", "a.b")}},
		{api.Stat, "a.b 0,_=:,a.b=a.b a_b", []api.Family{gauge("a.b", "a.b :"), gauge("a:b")}},
	} {
		becomes(t, c.proto, api.Lossy, c.want, inOrder(t, c.l...))
	}
}

// New names have another order: of the families, of the points, of the labels.
func TestP15_1SortedAgain(t *testing.T) {
	for _, c := range []row{
		{api.Open, "aAb 0,_x32=2 a_b_x2e 0,_x33=3 a_x2eb 0,_x31=1", []api.Family{gauge("a.b", "1"), gauge("aAb", "2"), gauge("a_b.", "3")}},
		{api.Open, "a 1,A=A 2,A=A,_x2e=. 3,Z=Z 0,_x2e=.", []api.Family{gauge("a", ".", "A", "A .", "Z")}},
		{api.Open, "a 0,aAb=aAb,a_x2eb=a.b 1,a_x2eb=a.b,c=c", []api.Family{gauge("a", "a.b aAb", "a.b c")}},
		{api.Open, "A 0,_x2e=.,a=a _x2e 0,A=A,_x2d=- 1,B=B,_x2e=.", []api.Family{gauge(".", "- A", ". B"), gauge("A", ". a")}},
	} {
		becomes(t, c.proto, api.Escaped, c.want, inOrder(t, c.l...))
	}
	becomes(t, api.Open, api.Lossy, "aAb a_b", of(gauge("a.b"), gauge("aAb")))
	becomes(t, api.Open, api.Lossy, "a 1,A=A 0,_=.", of(gauge("a", ".", "A")))
	becomes(t, api.Open, api.Lossy, "a 0,aAb=aAb,a_b=a.b", of(gauge("a", "a.b aAb")))
}

// All but the names stays: tenant, kinds, units, helps, values of labels, points.
func TestP15_1NamesAlone(t *testing.T) {
	if e := batch.Check(every()); e != api.OK {
		t.Fatalf("the batch is not valid: %d", e)
	}
	for _, proto := range formats {
		for _, mode := range modes {
			got, e := checkTo(t, proto, mode, every())
			if e != api.OK || batch.Check(got) != api.OK || !legal.Is(proto, got) {
				t.Errorf("To(%d, %d): %s, %d", proto, mode, show(got), e)
			}
			checkFrom(t, proto, mode, every())
		}
	}
	got, _, _ := legal.To(api.Open, api.Lossy, every())
	if want := (api.Head{Name: "a_h", Kind: api.Histogram, Unit: "un.it_x", Help: "he.lp é"}); got.Tenant != "t-1" || got.Fams[3].Head != want {
		t.Errorf("To: %q, %+v", got.Tenant, got.Fams[3].Head)
	}
	want := api.Point{Role: api.Bucket, Bound: api.Dec{M: -15, S: 1}, Value: api.Dec{M: 1}}
	want.Labels = []api.Label{{Name: "__", Value: "_x2e"}, {Name: "l_", Value: ""}, {Name: "l_1", Value: "v.1"}}
	if p := got.Fams[3].Points[0]; !equal(of(api.Family{Points: []api.Point{p}}), of(api.Family{Points: []api.Point{want}})) {
		t.Errorf("To: %+v", p)
	}
}

func TestP15_1NotValid(t *testing.T) {
	for _, b := range slices.Concat(invalid(), large()) {
		if batch.Check(b) == api.OK {
			t.Errorf("%s is valid", show(b))
		}
		for _, proto := range formats {
			for _, mode := range modes {
				refusesTo(t, proto, mode, api.ErrForm, b)
			}
		}
		refusesTo(t, 0, 2, api.ErrForm, b)
	}
}

func TestP15_1NoSuchFormatOrMode(t *testing.T) {
	for _, p := range strays {
		for _, b := range []api.Batch{of(), of(gauge("a", "b")), of(gauge("a-"), gauge("a.")), every()} {
			refusesTo(t, p[0], p[1], api.ErrForm, b)
		}
	}
}

func TestP15_1Clash(t *testing.T) {
	for _, c := range []struct {
		proto int
		a, b  string
		l     []api.Family
	}{
		{api.Open, "a-", "a.", []api.Family{gauge("a-"), gauge("a."), gauge("a_")}},
		{api.Open, "a ", "a_", []api.Family{gauge("a "), gauge("a_"), gauge("b-"), gauge("b.")}},
		{api.Line, "#a", "_a", []api.Family{gauge("#a"), gauge("_a")}},
		{api.Dots, "a..b", "a._b", []api.Family{gauge("a..b"), gauge("a.b"), gauge("a._b")}},
		{api.Stat, "a:b", "a_b", []api.Family{gauge("a.b"), gauge("a:b"), gauge("a_b")}},
		// families first, though labels have a lesser pair
		{api.Open, "z-", "z.", []api.Family{gauge("a", "a- a."), gauge("z-"), gauge("z.")}},
		{api.Open, "a-", "a.", []api.Family{gauge("a-", "z- z."), gauge("a.")}},
		// labels of one point, of two points, of points of two families; empty families between
		{api.Open, "x-", "x.", []api.Family{gauge("c", "x- x.")}},
		{api.Open, "x-", "x.", []api.Family{gauge("c", "x-", "x.")}},
		{api.Open, "x-", "x.", []api.Family{gauge("c", "x.", "y"), gauge("d"), gauge("e", "", "x- z")}},
		{api.Open, "a-", "a.", []api.Family{gauge("c", "x-", "x."), gauge("d", "a.", "a-")}},
		{api.Open, "x-", "x.", []api.Family{gauge("c", "x."), gauge("d", "x_"), gauge("e", "x-")}},
		{api.Open, "x:", "x_", []api.Family{gauge("x:", "x:"), gauge("x_", "x_")}},
		{api.Dots, "x.y", "x_y", []api.Family{gauge("x.y", "x.y"), gauge("x_y", "x_y")}},
	} {
		clashes(t, c.proto, c.a, c.b, inOrder(t, c.l...))
	}
}

// Names of a family and of a label never clash, nor does a name with itself; and escaped
// names don't at all.
func TestP15_1NoClash(t *testing.T) {
	becomes(t, api.Open, api.Lossy, "x_ 0,x_=x-", of(gauge("x.", "x-")))
	becomes(t, api.Open, api.Lossy, "a 0,x_=x- 1,x_=x-,y=y b 0,x_=x-", of(gauge("a", "x-", "x- y"), gauge("b", "x-")))
	becomes(t, api.Open, api.Lossy, "a:b a_b", of(gauge("a:b"), gauge("a_b")))
	becomes(t, api.Stat, api.Lossy, "a-b 0,x-=x-,x.=x. a.b", of(gauge("a-b", "x- x."), gauge("a.b")))
	becomes(t, api.Open, api.Escaped, "a_x2d 0,x_x2d=x-,x_x2e=x. a_x2e", of(gauge("a-", "x- x."), gauge("a.")))
}

func TestP15_1Limit(t *testing.T) {
	a := func(n int) string { return strings.Repeat("a", n) }
	becomes(t, api.Open, api.Escaped, a(60)+" 0,"+a(60)+"="+a(60), of(gauge(a(60), a(60))))
	becomes(t, api.Open, api.Escaped, a(56)+"_x2e", of(gauge(a(56)+".")))
	becomes(t, api.Open, api.Escaped, "a 0,"+a(56)+"_x2e="+a(56)+".", of(gauge("a", a(56)+".")))
	becomes(t, api.Open, api.Lossy, a(59)+"_ 0,"+a(59)+"_="+a(59)+".", of(gauge(a(59)+".", a(59)+".")))
	becomes(t, api.Open, api.Lossy, strings.Repeat("_", 60), of(gauge(strings.Repeat("é", 30))))
	for _, n := range []int{57, 58, 59} {
		refusesTo(t, api.Open, api.Escaped, api.ErrLimit, of(gauge(a(n)+".")))
		refusesTo(t, api.Open, api.Escaped, api.ErrLimit, of(gauge("a", a(n)+".")))
		refusesTo(t, api.Line, api.Escaped, api.ErrLimit, of(gauge("a", a(n)+"\\")))
		refusesTo(t, api.Dots, api.Escaped, api.ErrLimit, of(gauge("a", a(n)+".")))
		refusesTo(t, api.Stat, api.Escaped, api.ErrLimit, of(gauge("a", a(n)+":")))
		becomes(t, api.Stat, api.Escaped, "a 0,"+a(n)+".="+a(n)+".", of(gauge("a", a(n)+".")))
	}
	refusesTo(t, api.Open, api.Escaped, api.ErrLimit, of(gauge(a(56)+"_x")))
	refusesTo(t, api.Open, api.Escaped, api.ErrLimit, of(gauge("a"), gauge("b", "", a(57)+". x"), gauge("c")))
	for _, proto := range formats {
		refusesTo(t, proto, api.Escaped, api.ErrLimit, of(gauge(strings.Repeat("é", 8))))
		if _, e := checkTo(t, proto, api.Escaped, of(gauge(strings.Repeat("é", 7)))); e != api.OK {
			t.Errorf("To(%d) of a name of 56 bytes: %d", proto, e)
		}
	}
}

// A batch with as many families, points and labels as there may be is converted.
func TestP15_1FullBatch(t *testing.T) {
	for _, proto := range formats {
		for _, mode := range modes {
			got, e := checkTo(t, proto, mode, full())
			if e != api.OK || batch.Check(got) != api.OK || batch.Points(got) != api.MaxPoints {
				t.Errorf("To(%d, %d) of a full batch: %d", proto, mode, e)
			}
			if back, e := checkFrom(t, proto, mode, got); e != api.OK || mode == api.Escaped && !equal(back, full()) {
				t.Errorf("From(%d, %d) of a full batch: %d", proto, mode, e)
			}
		}
	}
}

func TestP15_1Drawn(t *testing.T) {
	drawn(t, loose, func(b api.Batch) {
		for _, proto := range formats {
			for _, mode := range modes {
				got, e := checkTo(t, proto, mode, b)
				if e == api.OK && (batch.Check(got) != api.OK || !legal.Is(proto, got)) {
					t.Errorf("To(%d, %d) of %s: %s", proto, mode, show(b), show(got))
				}
			}
		}
	})
}

func TestP15_2Back(t *testing.T) {
	for _, c := range []row{
		{api.Open, "", nil},
		{api.Open, "a.b 0,.=_x2e,_x41=_x41", []api.Family{gauge("a_x2eb", "_x41 _x2e")}},
		{api.Open, "a 0,.=_x2e,_x2e=_x5fx2e", []api.Family{gauge("a", "_x2e _x5fx2e")}},
		{api.Open, "é 0,é=_xc3_xa9", []api.Family{gauge("_xc3_xa9", "_xc3_xa9")}},
		{api.Open, "a b 0, =_x20", []api.Family{gauge("a_x20b", "_x20")}},
		// what is no Escape of a name stays
		{api.Open, "_ _x _x2 _x2E _x2g _x41 _x_x2e a.b", []api.Family{gauge("_"), gauge("_x"), gauge("_x2"), gauge("_x2E"), gauge("_x2g"), gauge("_x41"), gauge("_x_x2e"), gauge("a.b")}},
		{api.Open, "_x3a 0,:=_x3a", []api.Family{gauge("_x3a", "_x3a")}},
		{api.Open, "1 a_x31", []api.Family{gauge("_x31"), gauge("a_x31")}},
		{api.Line, "#a 0,_x23=_x23,_x2e=_x2e", []api.Family{gauge("_x23a", "_x23 _x2e")}},
		{api.Dots, "a. a_x2eb 0,a.b=a_x2eb", []api.Family{gauge("a_x2e"), gauge("a_x2eb", "a_x2eb")}},
		{api.Stat, "_x2e 0,:=_x3a,_x2e=_x2e", []api.Family{gauge("_x2e", "_x3a _x2e")}},
	} {
		comesBack(t, c.proto, api.Escaped, c.want, inOrder(t, c.l...))
	}
}

func TestP15_2SortedAgain(t *testing.T) {
	comesBack(t, api.Open, api.Escaped, "a.b aAb", of(gauge("aAb"), gauge("a_x2eb")))
	comesBack(t, api.Open, api.Escaped, "a 1,.=_x2e 0,A=A", of(gauge("a", "A", "_x2e")))
	comesBack(t, api.Open, api.Escaped, "a 0,a.b=a_x2eb,aAb=aAb", of(gauge("a", "aAb a_x2eb")))
}

// same makes a gauge with a point for each name of a label, whose values are all alike.
func same(name string, names ...string) api.Family {
	f := gauge(name)
	for _, s := range names {
		f.Points = append(f.Points, api.Point{Labels: []api.Label{{Name: s, Value: "v"}}})
	}
	return f
}

func TestP15_2ResultNotValid(t *testing.T) {
	for _, b := range []api.Batch{
		of(gauge("_x0a")), of(gauge("_x00")), of(gauge("_x1f")), of(gauge("_x7f")), of(gauge("_xff")), of(gauge("_xc3")), of(gauge("_xa9_xc3")),
		of(gauge("a", "_x0a")), of(gauge("a", "_x7f")), of(gauge("a", "_xff")), of(gauge("a"), gauge("b", "", "_xc3 x")),
		// two families, two labels, two points that become one
		of(gauge("a.b"), gauge("a_x2eb")),
		of(gauge("a", ". _x2e")),
		of(gauge("a", "", "- . _x2e", "b")),
		of(same("a", ".", "_x2e")),
		of(gauge("0"), same("a", " ", "_x20", "b")),
	} {
		if e := batch.Check(b); e != api.OK {
			t.Errorf("%s is not valid: %d", show(b), e)
		}
		refusesFrom(t, api.Open, api.Escaped, b)
	}
	// what keeps two points apart keeps them valid
	timed := same("a", ".", "_x2e")
	timed.Points[1].Timed = true
	comesBack(t, api.Open, api.Escaped, "a 0,.=v 0,.=v", of(timed))
	comesBack(t, api.Open, api.Escaped, "a 0,.=. 1,.=_x2e", of(gauge("a", ".", "_x2e")))
}

// Lossy names do not come back, and nothing is sorted or refused.
func TestP15_2Lossy(t *testing.T) {
	for _, b := range []api.Batch{
		of(), every(), full(),
		of(gauge("_x0a", ". _x2e"), gauge("_x2e", "_xff")),
		of(gauge("a-"), gauge("a."), gauge("a_x2e")),
		of(gauge(strings.Repeat("é", 30))),
	} {
		for _, proto := range formats {
			if got, e := legal.From(proto, api.Lossy, b); e != api.OK || !equal(got, b) {
				t.Errorf("From(%d) of %s: %s, %d", proto, show(b), show(got), e)
			}
		}
	}
}

func TestP15_2NotValid(t *testing.T) {
	for _, b := range slices.Concat(invalid(), large()) {
		for _, proto := range formats {
			for _, mode := range modes {
				refusesFrom(t, proto, mode, b)
			}
		}
	}
	for _, p := range strays {
		for _, b := range []api.Batch{of(), of(gauge("a", "b")), every()} {
			refusesFrom(t, p[0], p[1], b)
		}
	}
}

func TestP15_2Drawn(t *testing.T) {
	came, refused := 0, 0
	drawn(t, marks, func(b api.Batch) {
		for _, proto := range formats {
			checkFrom(t, proto, api.Lossy, b)
			got, e := checkFrom(t, proto, api.Escaped, b)
			if e == api.OK && show(got) != show(b) {
				came++
			}
			if e == api.ErrForm {
				refused++
			}
		}
	})
	if came < 500 || refused < 500 {
		t.Errorf("only %d batches came back, and %d were refused", came, refused)
	}
}

func TestP15_2Is(t *testing.T) {
	b60, b61 := strings.Repeat("a", 60), strings.Repeat("a", 61)
	for _, c := range []struct {
		b    api.Batch
		want []int
	}{
		{of(), formats},
		{of(gauge("a"), gauge("b", "", "c", "d e")), formats},
		{of(gauge("a:b", "c")), []int{api.Open, api.Line, api.Dots}},
		{of(gauge("a", "b:c")), []int{api.Line, api.Dots}},
		{of(gauge("a.b", "c")), []int{api.Line, api.Dots, api.Stat}},
		{of(gauge("a", "b.c")), []int{api.Line, api.Stat}},
		{of(gauge("a.", "c")), []int{api.Line, api.Stat}},
		{of(gauge("#")), nil},
		{of(gauge("a", "#")), []int{api.Line}},
		{of(gauge("a", "1")), []int{api.Line, api.Dots, api.Stat}},
		{of(gauge("a", "b"), gauge("c", "d", "e é")), nil},
		{of(gauge("a"), gauge("\\", "b"), gauge("c")), nil},
		{of(gauge(b60, b60)), formats},
		{of(gauge(b61)), nil},
		{of(gauge("a", b61)), nil},
		{of(gauge("")), nil},
		{of(api.Family{Head: api.Head{Name: "a"}, Points: []api.Point{{Labels: []api.Label{{}}}}}), nil},
		// names alone count, whatever else is wrong
		{api.Batch{}, formats},
		{api.Batch{Tenant: "T", Fams: []api.Family{gauge("b", "c b b", "a"), gauge("a"), gauge("a")}}, formats},
		{of(api.Family{Head: api.Head{Name: "a", Kind: 9, Unit: "\xff", Help: b61}, Points: []api.Point{{Labels: []api.Label{{Name: "b", Value: "\xff"}}, Role: 9}}}), formats},
		{of(gauge("a", "1a b c d e f g h i j")), []int{api.Line, api.Dots, api.Stat}},
		{large()[0], formats},
		{large()[1], formats},
	} {
		for _, proto := range formats {
			if got := legal.Is(proto, c.b); got != slices.Contains(c.want, proto) {
				t.Errorf("Is(%d) of %s: %v", proto, show(c.b), got)
			}
		}
	}
}

// In a format that does not exist no name is legal; where there is none, each one is.
func TestP15_2IsNoSuchFormat(t *testing.T) {
	for _, proto := range []int{0, 5, -1, 256 + api.Open, math.MaxInt, math.MinInt} {
		if legal.Is(proto, of(gauge("a"))) || legal.Is(proto, of(gauge("a", "b"))) {
			t.Errorf("Is(%d) of names", proto)
		}
		if !legal.Is(proto, of()) {
			t.Errorf("Is(%d) of no names", proto)
		}
	}
}

func TestP15_2IsDrawn(t *testing.T) {
	drawn(t, loose, func(b api.Batch) {
		fams, labs := namesOf(b)
		for _, proto := range formats {
			want := true
			for _, s := range fams {
				want = want && charset.Is(proto, api.OfFamily, s)
			}
			for _, s := range labs {
				want = want && charset.Is(proto, api.OfLabel, s)
			}
			if got := legal.Is(proto, b); got != want {
				t.Errorf("Is(%d) of %s: %v", proto, show(b), got)
			}
		}
	})
}

func TestP15_3RoundTrip(t *testing.T) {
	back := func(b api.Batch) {
		for _, proto := range formats {
			there, _, e := legal.To(proto, api.Escaped, b)
			if e == api.ErrLimit {
				continue
			}
			got, f := legal.From(proto, api.Escaped, there)
			if e != api.OK || f != api.OK || !equal(got, b) || !batch.Same(got, b) {
				t.Errorf("%d: %s becomes %s, %d; then %s, %d", proto, show(b), show(there), e, show(got), f)
			}
		}
	}
	back(of())
	back(every())
	back(full())
	drawn(t, loose, back)
	drawn(t, marks, back)
}

// spoil overwrites all that can be reached from a batch, spare capacity included.
func spoil(b api.Batch) {
	fams := b.Fams[:cap(b.Fams)]
	for i := range fams {
		points := fams[i].Points[:cap(fams[i].Points)]
		for j := range points {
			clear(points[j].Labels[:cap(points[j].Labels)])
		}
		clear(points)
	}
	clear(fams)
}

// shared is a batch of which several points have one list of labels, and several families
// one list of points, with something behind each list; and all that is behind it.
func shared() (b, whole api.Batch) {
	labs := labels("b.", "c_", "behind")
	points := []api.Point{{Labels: labs[:2]}, {Labels: labs[:2], Timed: true, Time: 1}, {Labels: labs}}
	fams := []api.Family{{Head: api.Head{Name: "a."}, Points: points[:2]}, {Head: api.Head{Name: "b."}, Points: points[:2]}, {Head: api.Head{Name: "behind"}, Points: points}}
	return of(fams[:2]...), of(fams...)
}

// calls has To and From in each mode.
func calls() []func(b api.Batch) (api.Batch, api.Errno) {
	var all []func(b api.Batch) (api.Batch, api.Errno)
	for _, mode := range modes {
		all = append(all, func(b api.Batch) (api.Batch, api.Errno) {
			got, _, e := legal.To(api.Open, mode, b)
			return got, e
		}, func(b api.Batch) (api.Batch, api.Errno) { return legal.From(api.Open, mode, b) })
	}
	return all
}

// What is handed in stays as it is, with what lies behind it, and an answer shares no
// memory with it, nor with another answer.
func TestP15_1And2NewMemory(t *testing.T) {
	for i, call := range calls() {
		b, whole := shared()
		was := deep(whole)
		first, e := call(b)
		second, f := call(b)
		want := deep(second)
		if e != api.OK || f != api.OK || !equal(first, second) || !equal(whole, was) {
			t.Fatalf("call %d: %s, %d; %s, %d; of %s", i, show(first), e, show(second), f, show(whole))
		}
		spoil(first)
		if !equal(whole, was) || !equal(second, want) {
			t.Errorf("call %d: memory is shared: %s, %s", i, show(whole), show(second))
		}
		spoil(b)
		if !equal(second, want) {
			t.Errorf("call %d: what was given is kept: %s", i, show(second))
		}
	}
}

// No two lists of one answer share memory, though those that were given do.
func TestP15_1And2ListsApart(t *testing.T) {
	for i, call := range calls() {
		b, _ := shared()
		got, _ := call(b)
		want := deep(got)
		labs := got.Fams[0].Points[0].Labels
		clear(labs[:cap(labs)])
		want.Fams[0].Points[0].Labels = make([]api.Label, len(labs))
		if !equal(got, want) {
			t.Errorf("call %d: labels are shared: %s", i, show(got))
		}
		points := got.Fams[0].Points
		clear(points[:cap(points)])
		if !equal(of(got.Fams[1]), of(want.Fams[1])) {
			t.Errorf("call %d: points are shared: %s", i, show(got))
		}
	}
}
