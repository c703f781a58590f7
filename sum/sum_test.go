package sum_test

import (
	"math"
	"math/big"
	"math/rand"
	"slices"
	"testing"

	"polyglot/api"
	"polyglot/dec"
	"polyglot/sum"
)

func power(s int) *big.Int {
	return new(big.Int).Exp(big.NewInt(10), big.NewInt(int64(s)), nil)
}

// exact returns the number of a valid decimal.
func exact(d api.Dec) *big.Rat {
	return new(big.Rat).SetFrac(big.NewInt(d.M), power(d.S))
}

var (
	unit     = new(big.Rat).SetInt(power(18))
	greatest = big.NewInt(math.MaxInt64)
)

// valid returns the valid decimal that equals x; false if there is none.
func valid(x *big.Rat) (api.Dec, bool) {
	// Whatever isn't whole at the greatest scale isn't at a lower one either.
	raised := new(big.Rat).Mul(x, unit)
	if !raised.IsInt() {
		return api.Dec{}, false
	}
	m, scale := raised.Num(), 18
	for scale > 0 {
		tenth, last := new(big.Int).QuoRem(m, big.NewInt(10), new(big.Int))
		if last.Sign() != 0 {
			break
		}
		m, scale = tenth, scale-1
	}
	if m.CmpAbs(greatest) > 0 {
		return api.Dec{}, false
	}
	return api.Dec{M: m.Int64(), S: scale}, true
}

// small returns the valid decimals near 0 with few digits.
func small() []api.Dec {
	var l []api.Dec
	for m := int64(-52); m <= 52; m++ {
		for _, s := range []int{0, 1, 2} {
			if d := (api.Dec{M: m, S: s}); dec.Good(d) {
				l = append(l, d)
			}
		}
	}
	return l
}

// wide returns valid decimals of all sizes and at all scales, those at the ends among them.
func wide() []api.Dec {
	var l []api.Dec
	some := []int64{0, 1, 2, 3, 5, 7, 9, 11, 25, 99, 101, 999_999_999, 1 << 32, 1<<32 + 1, 3_037_000_499, 3_037_000_500, 5_000_000_000_000_000_000, 1e18, 1e18 - 1, 1e18 + 1, 9e18, 9_200_000_000_000_000_001, 4_611_686_018_427_387_904, 4_611_686_018_427_387_903, 1_152_921_504_606_846_976, 3_814_697_265_625, math.MaxInt64, math.MaxInt64 - 1, math.MaxInt64 - 7, math.MaxInt64 - 8}
	for _, m := range some {
		for _, s := range []int{0, 1, 9, 17, 18} {
			for _, d := range []api.Dec{{M: m, S: s}, {M: -m, S: s}} {
				if dec.Good(d) && !slices.Contains(l, d) {
					l = append(l, d)
				}
			}
		}
	}
	return l
}

// wrong returns decimals that are not valid.
func wrong() []api.Dec {
	return []api.Dec{
		{M: 10, S: 1}, {M: -10, S: 1}, {M: 0, S: 1}, {M: 0, S: 18}, {M: 100, S: 2}, {M: 9e18, S: 18}, {M: 7, S: -1}, {M: 0, S: -1}, {M: 7, S: 19}, {M: 0, S: 19},
		{M: 7, S: math.MaxInt}, {M: 7, S: math.MinInt}, {M: 0, S: math.MaxInt}, {M: math.MinInt64, S: 0}, {M: math.MinInt64, S: 1}, {M: math.MinInt64, S: 18}, {M: math.MinInt64, S: math.MinInt}, {M: math.MaxInt64, S: 19},
	}
}

// drawn returns a valid decimal from anywhere.
func drawn(r *rand.Rand) api.Dec {
	for {
		m := r.Int63() >> r.Intn(63)
		if r.Intn(2) == 0 {
			m = -m
		}
		if d := (api.Dec{M: m, S: r.Intn(19)}); dec.Good(d) {
			return d
		}
	}
}

// pairs gives f all pairs of small, of wide, and many that are drawn.
func pairs(f func(a, b api.Dec)) {
	for _, l := range [][]api.Dec{small(), wide()} {
		for _, a := range l {
			for _, b := range l {
				f(a, b)
			}
		}
	}
	r := rand.New(rand.NewSource(5))
	for range 20000 {
		f(drawn(r), drawn(r))
	}
}

func TestP5_1Compare(t *testing.T) {
	pairs(func(a, b api.Dec) {
		if got, want := sum.Compare(a, b), exact(a).Cmp(exact(b)); got != want {
			t.Fatalf("Compare(%v, %v) = %d; want %d", a, b, got, want)
		}
	})
}

func TestP5_1CompareWrong(t *testing.T) {
	for _, bad := range wrong() {
		for _, d := range wide() {
			want := exact(d).Sign()
			if got := sum.Compare(d, bad); got != want {
				t.Errorf("Compare(%v, %v) = %d; want %d", d, bad, got, want)
			}
			if got := sum.Compare(bad, d); got != -want {
				t.Errorf("Compare(%v, %v) = %d; want %d", bad, d, got, -want)
			}
		}
		for _, other := range wrong() {
			if got := sum.Compare(bad, other); got != 0 {
				t.Errorf("Compare(%v, %v) = %d; want 0", bad, other, got)
			}
		}
	}
}

func TestP5_1Neg(t *testing.T) {
	for _, d := range append(small(), wide()...) {
		got := sum.Neg(d)
		if !dec.Good(got) || exact(got).Cmp(new(big.Rat).Neg(exact(d))) != 0 {
			t.Errorf("Neg(%v) = %v", d, got)
		}
	}
	for _, bad := range wrong() {
		if got := sum.Neg(bad); got != (api.Dec{}) {
			t.Errorf("Neg(%v) = %v; want 0", bad, got)
		}
	}
}

// added is what Add does, in rational numbers.
func added(l []api.Dec) (api.Dec, bool) {
	x := new(big.Rat)
	for _, d := range l {
		if !dec.Good(d) {
			return api.Dec{}, false
		}
		x.Add(x, exact(d))
		if _, ok := valid(x); !ok {
			return api.Dec{}, false
		}
	}
	return valid(x)
}

func checkAdd(t *testing.T, l ...api.Dec) {
	t.Helper()
	want, ok := added(l)
	if got, gotOK := sum.Add(l...); got != want || gotOK != ok {
		t.Fatalf("Add(%v) = %v, %v; want %v, %v", l, got, gotOK, want, ok)
	}
}

func TestP5_1AddPairs(t *testing.T) {
	pairs(func(a, b api.Dec) { checkAdd(t, a, b) })
}

func TestP5_1AddNoneAndOne(t *testing.T) {
	checkAdd(t)
	if got, ok := sum.Add(); got != (api.Dec{}) || !ok {
		t.Errorf("Add() = %v, %v; want 0", got, ok)
	}
	for _, d := range append(append(small(), wide()...), wrong()...) {
		checkAdd(t, d)
	}
}

func TestP5_1AddThree(t *testing.T) {
	l := []api.Dec{{}, {M: 1}, {M: -1}, {M: 1, S: 18}, {M: -1, S: 18}, {M: 5, S: 1}, {M: math.MaxInt64}, {M: -math.MaxInt64}, {M: math.MaxInt64, S: 18}, {M: 9, S: 0}, {M: -92, S: 1}, {M: 10, S: 1}, {M: math.MinInt64}}
	for _, a := range l {
		for _, b := range l {
			for _, c := range l {
				checkAdd(t, a, b, c)
			}
		}
	}
}

// A sum on the way that is not valid is the end, whatever the elements after it are.
func TestP5_1AddOnTheWay(t *testing.T) {
	most, one, tiny := api.Dec{M: math.MaxInt64}, api.Dec{M: 1}, api.Dec{M: 1, S: 18}
	for _, l := range [][]api.Dec{{most, one, sum.Neg(one)}, {sum.Neg(most), sum.Neg(one), one}, {most, tiny, sum.Neg(tiny)}, {{M: 10}, tiny, sum.Neg(tiny)}, {most, one, sum.Neg(most)}} {
		if got, ok := sum.Add(l...); got != (api.Dec{}) || ok {
			t.Errorf("Add(%v) = %v, %v; want false", l, got, ok)
		}
	}
	// The same elements in another order are all right.
	if got, ok := sum.Add(most, sum.Neg(one), one); got != most || !ok {
		t.Errorf("Add = %v, %v; want %v", got, ok, most)
	}
	if got, ok := sum.Add(tiny, api.Dec{M: 9}, sum.Neg(tiny)); got != (api.Dec{M: 9}) || !ok {
		t.Errorf("Add = %v, %v; want 9", got, ok)
	}
}

func TestP5_1AddWrong(t *testing.T) {
	for _, bad := range wrong() {
		for at := range 5 {
			for n := at; n < 5; n++ {
				l := make([]api.Dec, n)
				l = slices.Insert(l, at, bad)
				if got, ok := sum.Add(l...); got != (api.Dec{}) || ok {
					t.Errorf("Add(%v) = %v, %v; want false", l, got, ok)
				}
			}
		}
	}
}

func TestP5_1AddLongLists(t *testing.T) {
	r := rand.New(rand.NewSource(51))
	for range 2000 {
		l := make([]api.Dec, r.Intn(12))
		for i := range l {
			l[i] = drawn(r)
			if r.Intn(4) > 0 {
				l[i], _ = dec.Norm(int64(r.Intn(20001)-10000), r.Intn(6))
			}
		}
		checkAdd(t, l...)
	}
	ones := slices.Repeat([]api.Dec{{M: 1, S: 3}}, 100000)
	if got, ok := sum.Add(ones...); got != (api.Dec{M: 100}) || !ok {
		t.Errorf("100000 thousandths are %v, %v", got, ok)
	}
}

// What is handed in stays as it is, behind its end too, and is not looked at later.
func TestP5_1AddLeavesItsList(t *testing.T) {
	room := []api.Dec{{M: 5, S: 1}, {M: 7}, {M: -1}, {M: 99}, {M: 98}}
	before := slices.Clone(room)
	got, ok := sum.Add(room[:3]...)
	if !slices.Equal(room, before) {
		t.Errorf("Add made %v of %v", room, before)
	}
	room[0], room[1] = api.Dec{M: 1000}, api.Dec{M: 1000}
	if got != (api.Dec{M: 65, S: 1}) || !ok {
		t.Errorf("Add = %v, %v; want 6.5", got, ok)
	}
}

func checkTimes(t *testing.T, a, b api.Dec) {
	t.Helper()
	want, ok := valid(new(big.Rat).Mul(exact(a), exact(b)))
	if got, gotOK := sum.Times(a, b); got != want || gotOK != ok {
		t.Fatalf("Times(%v, %v) = %v, %v; want %v, %v", a, b, got, gotOK, want, ok)
	}
}

func TestP5_2Times(t *testing.T) {
	pairs(func(a, b api.Dec) { checkTimes(t, a, b) })
}

// Powers of 2 and of 5 make zeros at the end, with which a product would be too great,
// or have too many digits after the point.
func TestP5_2TimesZerosAtTheEnd(t *testing.T) {
	five := int64(1)
	for p := range 27 {
		for q := range 62 {
			for s := range 19 {
				a, okA := dec.Norm(five, s)
				b, okB := dec.Norm(int64(1)<<q, (s*7+p)%19)
				if okA && okB {
					checkTimes(t, a, b)
					checkTimes(t, sum.Neg(b), a)
				}
			}
		}
		five *= 5
	}
}

func checkOver(t *testing.T, a, b api.Dec) {
	t.Helper()
	var want api.Dec
	ok := b.M != 0
	if ok {
		want, ok = valid(new(big.Rat).Quo(exact(a), exact(b)))
	}
	if got, gotOK := sum.Over(a, b); got != want || gotOK != ok {
		t.Fatalf("Over(%v, %v) = %v, %v; want %v, %v", a, b, got, gotOK, want, ok)
	}
}

func TestP5_2Over(t *testing.T) {
	pairs(func(a, b api.Dec) { checkOver(t, a, b) })
}

// Divisors with and without other factors than those of 10, dividends that make up for them.
func TestP5_2OverFactors(t *testing.T) {
	for p := range 30 {
		for q := range 20 {
			for _, f := range []int64{1, 3, 7, 21} {
				by := new(big.Int).Mul(new(big.Int).Exp(big.NewInt(5), big.NewInt(int64(q)), nil), new(big.Int).Lsh(big.NewInt(f), uint(p)))
				if !by.IsInt64() {
					continue
				}
				b, ok := dec.Norm(by.Int64(), (p+q)%19)
				for s := 0; ok && s < 19; s += 6 {
					for _, m := range []int64{1, 3, -7, 21, math.MaxInt64, -9e18} {
						if a, ok := dec.Norm(m, s); ok {
							checkOver(t, a, b)
						}
					}
				}
			}
		}
	}
}

func TestP5_2OverNought(t *testing.T) {
	for _, d := range append(small(), wide()...) {
		if got, ok := sum.Over(d, api.Dec{}); got != (api.Dec{}) || ok {
			t.Errorf("Over(%v, 0) = %v, %v; want false", d, got, ok)
		}
	}
}

func TestP5_2Wrong(t *testing.T) {
	calls := map[string]func(a, b api.Dec) (api.Dec, bool){"Times": sum.Times, "Over": sum.Over}
	for name, call := range calls {
		for _, bad := range wrong() {
			for _, d := range append(wrong(), api.Dec{}, api.Dec{M: 1}, api.Dec{M: -5, S: 1}, api.Dec{M: math.MaxInt64}) {
				for _, l := range [][2]api.Dec{{bad, d}, {d, bad}} {
					if got, ok := call(l[0], l[1]); got != (api.Dec{}) || ok {
						t.Errorf("%s%v = %v, %v; want false", name, l, got, ok)
					}
				}
			}
		}
	}
}

func checkScaled(t *testing.T, a api.Dec, s int) {
	t.Helper()
	var want int64
	ok := s >= 0 && s <= 18
	if ok {
		m := new(big.Rat).Mul(exact(a), new(big.Rat).SetInt(power(s)))
		ok = m.IsInt() && m.Num().CmpAbs(greatest) <= 0
		if ok {
			want = m.Num().Int64()
		}
	}
	if got, gotOK := sum.Scaled(a, s); got != want || gotOK != ok {
		t.Errorf("Scaled(%v, %d) = %d, %v; want %d, %v", a, s, got, gotOK, want, ok)
	}
}

func TestP5_2Scaled(t *testing.T) {
	for _, d := range append(small(), wide()...) {
		for s := -3; s <= 40; s++ {
			checkScaled(t, d, s)
		}
		for _, s := range []int{math.MinInt, math.MinInt32, -18, math.MaxInt32, math.MaxInt} {
			checkScaled(t, d, s)
		}
	}
}

// The numbers around the ends of int64, at each scale.
func TestP5_2ScaledAtTheEnds(t *testing.T) {
	for p := range 19 {
		m := math.MaxInt64 / power(p).Int64()
		for d := int64(-2); d <= 2; d++ {
			if m+d < m-2 {
				continue
			}
			for from := range 19 {
				a, ok := dec.Norm(m+d, from)
				for s := 0; ok && s <= 18; s++ {
					checkScaled(t, a, s)
					checkScaled(t, sum.Neg(a), s)
				}
			}
		}
	}
}

func TestP5_2ScaledWrong(t *testing.T) {
	for _, bad := range wrong() {
		for s := -1; s <= 20; s++ {
			if got, ok := sum.Scaled(bad, s); got != 0 || ok {
				t.Errorf("Scaled(%v, %d) = %d, %v; want false", bad, s, got, ok)
			}
		}
	}
}

func TestP5_2Examples(t *testing.T) {
	if got, ok := sum.Over(api.Dec{M: 1}, api.Dec{M: 8}); got != (api.Dec{M: 125, S: 3}) || !ok {
		t.Errorf("Over(1, 8) = %v, %v", got, ok)
	}
	if got, ok := sum.Over(api.Dec{M: 1}, api.Dec{M: 3}); got != (api.Dec{}) || ok {
		t.Errorf("Over(1, 3) = %v, %v", got, ok)
	}
}

// A number with one digit too many is none at all, not the one next to it.
func TestP5_3OneDigitTooMany(t *testing.T) {
	most, tiny := api.Dec{M: math.MaxInt64}, api.Dec{M: 1, S: 18}
	refused := map[string]func() (api.Dec, bool){
		"most and a tenth":          func() (api.Dec, bool) { return sum.Add(most, api.Dec{M: 1, S: 1}) },
		"most and the least":        func() (api.Dec, bool) { return sum.Add(most, tiny) },
		"ten and the least":         func() (api.Dec, bool) { return sum.Add(api.Dec{M: 10}, tiny) },
		"most less the least":       func() (api.Dec, bool) { return sum.Add(most, sum.Neg(tiny)) },
		"a tenth of the least":      func() (api.Dec, bool) { return sum.Times(tiny, api.Dec{M: 1, S: 1}) },
		"half of the least":         func() (api.Dec, bool) { return sum.Over(tiny, api.Dec{M: 2}) },
		"the least squared":         func() (api.Dec, bool) { return sum.Times(tiny, tiny) },
		"half of most":              func() (api.Dec, bool) { return sum.Over(most, api.Dec{M: 2}) },
		"a tenth more than most":    func() (api.Dec, bool) { return sum.Times(most, api.Dec{M: 11, S: 1}) },
		"a third":                   func() (api.Dec, bool) { return sum.Over(api.Dec{M: 1}, api.Dec{M: 3}) },
		"two thirds":                func() (api.Dec, bool) { return sum.Over(api.Dec{M: 2}, api.Dec{M: 3}) },
		"most over its predecessor": func() (api.Dec, bool) { return sum.Over(most, api.Dec{M: math.MaxInt64 - 1}) },
		"2 to the power of -19":     func() (api.Dec, bool) { return sum.Over(api.Dec{M: 1}, api.Dec{M: 1 << 19}) },
	}
	for name, call := range refused {
		if got, ok := call(); got != (api.Dec{}) || ok {
			t.Errorf("%s: %v, %v; want false", name, got, ok)
		}
	}
	if got, ok := sum.Add(api.Dec{M: 9}, tiny); got != (api.Dec{M: 9_000_000_000_000_000_001, S: 18}) || !ok {
		t.Errorf("9 and the least: %v, %v", got, ok)
	}
	if got, ok := sum.Over(api.Dec{M: 1}, api.Dec{M: 1 << 18}); got != (api.Dec{M: 3_814_697_265_625, S: 18}) || !ok {
		t.Errorf("2 to the power of -18: %v, %v", got, ok)
	}
}

// Numbers that differ by less than one part of all their digits are not equal.
func TestP5_3CompareToTheLastDigit(t *testing.T) {
	for s := range 19 {
		for s2 := range 19 {
			a, okA := dec.Norm(math.MaxInt64, s)
			b, okB := dec.Norm(math.MaxInt64-1, s2)
			if okA && okB && sum.Compare(a, b) != exact(a).Cmp(exact(b)) {
				t.Errorf("Compare(%v, %v) = %d", a, b, sum.Compare(a, b))
			}
		}
	}
	if sum.Compare(api.Dec{M: math.MaxInt64}, api.Dec{M: math.MaxInt64 - 1}) != 1 {
		t.Error("the greatest two are taken for equal")
	}
}

// What was reckoned is undone exactly.
func TestP5_3Undone(t *testing.T) {
	pairs(func(a, b api.Dec) {
		if c, ok := sum.Add(a, b); ok {
			if back, ok := sum.Add(c, sum.Neg(b)); back != a || !ok {
				t.Fatalf("%v and %v are %v; less the second they are %v, %v", a, b, c, back, ok)
			}
		}
		if c, ok := sum.Over(a, b); ok {
			if back, ok := sum.Times(c, b); back != a || !ok {
				t.Fatalf("%v over %v is %v; times the second it is %v, %v", a, b, c, back, ok)
			}
		}
		if c, ok := sum.Times(a, b); ok && b.M != 0 {
			if back, ok := sum.Over(c, b); back != a || !ok {
				t.Fatalf("%v times %v is %v; over the second it is %v, %v", a, b, c, back, ok)
			}
		}
	})
	for _, d := range wide() {
		for s := range 19 {
			if m, ok := sum.Scaled(d, s); ok {
				if back, ok := dec.Norm(m, s); back != d || !ok {
					t.Errorf("Scaled(%v, %d) = %d, which is %v", d, s, m, back)
				}
			}
		}
	}
}
