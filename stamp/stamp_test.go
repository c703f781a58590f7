package stamp_test

import (
	"math"
	"math/big"
	"math/rand"
	"regexp"
	"strconv"
	"strings"
	"testing"

	"polyglot/api"
	"polyglot/dec"
	"polyglot/stamp"
)

const most = int64(api.MaxTime)

// form is a set of strings, and what its members can begin with.
type form struct{ whole, begun *regexp.Regexp }

var (
	signed   = form{regexp.MustCompile(`\A-?[0-9]+\z`), regexp.MustCompile(`\A-?[0-9]*\z`)}
	unsigned = form{regexp.MustCompile(`\A[0-9]+\z`), regexp.MustCompile(`\A[0-9]*\z`)}
	greatest = big.NewInt(math.MaxInt64)
)

// number is what the chapter says of a string of a form, in big integers.
func (f form) number(s string) (int64, api.Errno, int) {
	if !f.whole.MatchString(s) {
		n := len(s)
		for !f.begun.MatchString(s[:n]) {
			n--
		}
		return 0, api.ErrSyntax, n
	}
	x, ok := new(big.Int).SetString(s, 10)
	if !ok {
		panic(s)
	}
	if x.CmpAbs(greatest) > 0 {
		return 0, api.ErrRange, 0
	}
	return x.Int64(), api.OK, 0
}

func checkNumbers(t *testing.T, s string) {
	t.Helper()
	wantN, wantE, wantAt := signed.number(s)
	if n, e, at := stamp.Int(s); n != wantN || e != wantE || at != wantAt {
		t.Errorf("Int(%.80q) = %d, %d, %d; want %d, %d, %d", s, n, e, at, wantN, wantE, wantAt)
	}
	wantN, wantE, wantAt = unsigned.number(s)
	if n, e, at := stamp.Uint(s); n != wantN || e != wantE || at != wantAt {
		t.Errorf("Uint(%.80q) = %d, %d, %d; want %d, %d, %d", s, n, e, at, wantN, wantE, wantAt)
	}
}

// each gives f all strings of some bytes up to a length.
func each(bytes string, length int, f func(s string)) {
	var grow func(s string)
	grow = func(s string) {
		f(s)
		if len(s) == length {
			return
		}
		for i := range len(bytes) {
			grow(s + bytes[i:i+1])
		}
	}
	grow("")
}

func TestP6_1Short(t *testing.T) {
	each("-+01. \x00a", 6, func(s string) { checkNumbers(t, s) })
}

func TestP6_1EachByte(t *testing.T) {
	for b := range 256 {
		c := string([]byte{byte(b)})
		for _, s := range []string{c, c + "1", "-" + c, "-" + c + "1", "12" + c, "12" + c + "3", "-12" + c, "-12" + c + "3", "0" + c, "12" + c + c} {
			checkNumbers(t, s)
		}
	}
}

func TestP6_1Others(t *testing.T) {
	for _, s := range []string{"1.0", "1.", "-1.5", ".5", "1e3", "0x1f", "1_000", "1,5", "\u0661", "1\u0662", "\u22121", "\uff11", "NaN", "Inf", "-Inf", "\n", "1\n", "\n1", "-1\r\n", "12\x00", "\xff", "1\xff", "- 1", "-", "--", "1-", "1-2", "true"} {
		checkNumbers(t, s)
		if _, e, _ := stamp.Int(s); e != api.ErrSyntax {
			t.Errorf("Int(%q): error %d; want ErrSyntax", s, e)
		}
	}
}

func TestP6_1Ends(t *testing.T) {
	for _, end := range []string{"9223372036854775807", "9223372036854775808", "18446744073709551615", "18446744073709551616", "36893488147419103232", "99999999999999999999", "100000000000000000000", "1000000000000000000", "10000000000000000000", "2147483647", "4294967296"} {
		for d := int64(-12); d <= 12; d++ {
			x, _ := new(big.Int).SetString(end, 10)
			text := x.Add(x, big.NewInt(d)).String()
			for _, zeros := range []string{"", "0", "000000000", strings.Repeat("0", 400)} {
				for _, s := range []string{zeros + text, "-" + zeros + text} {
					checkNumbers(t, s)
					// Where it is no integer, that comes first, however great the number.
					checkNumbers(t, s+"x")
					checkNumbers(t, s+".0")
					checkNumbers(t, s+"-")
				}
			}
		}
	}
}

func TestP6_1Least(t *testing.T) {
	if n, e, at := stamp.Int("-9223372036854775807"); n != -math.MaxInt64 || e != api.OK || at != 0 {
		t.Errorf("Int of -(2^63 - 1) = %d, %d, %d", n, e, at)
	}
	if n, e, at := stamp.Int("-9223372036854775808"); n != 0 || e != api.ErrRange || at != 0 {
		t.Errorf("Int of -2^63 = %d, %d, %d", n, e, at)
	}
	if n, e, at := stamp.Uint("-5"); n != 0 || e != api.ErrSyntax || at != 0 {
		t.Errorf("Uint(-5) = %d, %d, %d", n, e, at)
	}
}

func TestP6_1Long(t *testing.T) {
	for _, n := range []int{19, 20, 21, 55, 56, 100, 4000, 100000} {
		for _, digit := range []string{"0", "1", "9"} {
			digits := strings.Repeat(digit, n)
			for _, s := range []string{digits, "-" + digits, digits + "-", digits + " ", "-" + digits + "a1", digits + "7"} {
				checkNumbers(t, s)
			}
		}
	}
}

func TestP6_1Drawn(t *testing.T) {
	r := rand.New(rand.NewSource(61))
	for range 20000 {
		n := r.Int63() >> r.Intn(63)
		s := strings.Repeat("0", r.Intn(3)) + strconv.FormatInt(n, 10) + strings.Repeat("0", r.Intn(3))
		checkNumbers(t, s)
		checkNumbers(t, "-"+s)
		at := r.Intn(len(s) + 1)
		checkNumbers(t, s[:at]+"-"+s[at:])
	}
}

// perMs are a unit's share in a millisecond, as the words of the promise have it.
func perMs(unit int) (*big.Rat, bool) {
	switch unit {
	case api.Second:
		return big.NewRat(1, 1000), true
	case api.Milli:
		return big.NewRat(1, 1), true
	case api.Micro:
		return big.NewRat(1000, 1), true
	case api.Nano:
		return big.NewRat(1000000, 1), true
	}
	return nil, false
}

// asTime returns x milliseconds as a time; false if they are none.
func asTime(x *big.Rat) (int64, bool) {
	if !x.IsInt() || x.Num().CmpAbs(big.NewInt(most)) > 0 {
		return 0, false
	}
	return x.Num().Int64(), true
}

func ms(n int64, unit int) (int64, bool) {
	per, ok := perMs(unit)
	if !ok {
		return 0, false
	}
	return asTime(new(big.Rat).Quo(new(big.Rat).SetInt64(n), per))
}

func of(ms int64, unit int) (int64, bool) {
	per, ok := perMs(unit)
	if !ok || ms < -most || ms > most {
		return 0, false
	}
	x := new(big.Rat).Mul(new(big.Rat).SetInt64(ms), per)
	if !x.IsInt() || !x.Num().IsInt64() {
		return 0, false
	}
	return x.Num().Int64(), true
}

func checkUnit(t *testing.T, n int64, unit int) {
	t.Helper()
	want, ok := ms(n, unit)
	if got, gotOK := stamp.Ms(n, unit); got != want || gotOK != ok {
		t.Errorf("Ms(%d, %d) = %d, %v; want %d, %v", n, unit, got, gotOK, want, ok)
	}
	want, ok = of(n, unit)
	if got, gotOK := stamp.Of(n, unit); got != want || gotOK != ok {
		t.Errorf("Of(%d, %d) = %d, %v; want %d, %v", n, unit, got, gotOK, want, ok)
	}
}

// near gives f the numbers around n and around its negation.
func near(n, reach int64, f func(n int64)) {
	for d := -reach; d <= reach; d++ {
		// Beyond the ends of int64 they go round, and are inputs all the same.
		f(n + d)
		f(-n - d)
	}
}

// numbers gives f small numbers, those at all bounds, powers of ten and of two, and drawn ones.
func numbers(f func(n int64)) {
	near(0, 2100, f)
	for _, n := range []int64{most, most / 1000, most * 1000, 9223372036854, 9223372036854775, 9223372036854775000, 9223372036854000000, math.MaxInt64, math.MaxInt32, math.MaxUint32} {
		near(n, 1100, f)
	}
	for p := int64(1000); p < math.MaxInt64/10; p *= 10 {
		near(p, 3, f)
		near(9*p, 3, f)
		near(p/2*3, 3, f)
	}
	for p := int64(1); p > 0; p *= 2 {
		near(p, 1, f)
	}
	r := rand.New(rand.NewSource(62))
	for range 3000 {
		n := r.Int63() >> r.Intn(63)
		near(n, 0, f)
		for _, step := range []int64{1000, 1000000, 1000000000} {
			near(n/step*step, 0, f)
		}
	}
	f(math.MinInt64)
	f(math.MinInt64 + 1)
}

func TestP6_2(t *testing.T) {
	for unit := range 4 {
		numbers(func(n int64) { checkUnit(t, n, unit) })
		// A product too great for an int64 must not go round into a time.
		near(math.MaxInt64/1000, 1100, func(n int64) { checkUnit(t, n, unit) })
		near(math.MaxInt64/1000000, 1100, func(n int64) { checkUnit(t, n, unit) })
	}
}

func TestP6_2Named(t *testing.T) {
	for _, c := range []struct {
		n    int64
		unit int
		ms   int64
	}{{-7, api.Second, -7000}, {7, api.Milli, 7}, {7000, api.Micro, 7}, {-7000000, api.Nano, -7}, {1500000, api.Micro, 1500}, {most, api.Milli, most}, {-most * 1000, api.Micro, -most}} {
		if got, ok := stamp.Ms(c.n, c.unit); got != c.ms || !ok {
			t.Errorf("Ms(%d, %d) = %d, %v; want %d", c.n, c.unit, got, ok, c.ms)
		}
		if got, ok := stamp.Of(c.ms, c.unit); got != c.n || !ok {
			t.Errorf("Of(%d, %d) = %d, %v; want %d", c.ms, c.unit, got, ok, c.n)
		}
	}
	if got, ok := stamp.Of(1500, api.Second); got != 0 || ok {
		t.Errorf("Of(1500, Second) = %d, %v; want false", got, ok)
	}
}

func TestP6_2NoUnit(t *testing.T) {
	for _, unit := range []int{-1, -2, -4, 4, 5, 6, 7, 8, 256, 1 << 32, 1<<32 + 1, math.MaxInt, math.MinInt} {
		for _, n := range []int64{0, 1, -1, 1000, 1000000, most, most + 1, math.MaxInt64, math.MinInt64} {
			checkUnit(t, n, unit)
		}
	}
}

func secs(d api.Dec) (int64, bool) {
	if !dec.Good(d) {
		return 0, false
	}
	scale := new(big.Int).Exp(big.NewInt(10), big.NewInt(int64(d.S)), nil)
	x := new(big.Rat).SetFrac(big.NewInt(d.M), scale)
	return asTime(x.Mul(x, big.NewRat(1000, 1)))
}

func TestP6_3Seconds(t *testing.T) {
	scales := []int{-18, 36, 100, 1 << 32, 1<<32 + 3, math.MaxInt, math.MinInt}
	for s := -3; s <= 21; s++ {
		scales = append(scales, s)
	}
	numbers(func(m int64) {
		for _, s := range scales {
			d := api.Dec{M: m, S: s}
			want, ok := secs(d)
			if got, gotOK := stamp.Seconds(d); got != want || gotOK != ok {
				t.Errorf("Seconds(%v) = %d, %v; want %d, %v", d, got, gotOK, want, ok)
			}
		}
	})
}

func TestP6_3SecondsNotValid(t *testing.T) {
	for _, d := range []api.Dec{{M: 10, S: 1}, {M: -1500, S: 3}, {M: 0, S: 1}, {M: 0, S: 3}, {M: 0, S: -1}, {M: 1, S: -3}, {M: 0, S: 19}, {M: 0, S: math.MaxInt}, {M: math.MinInt64}, {M: math.MinInt64, S: 18}, {M: 1e18, S: 18}} {
		if got, ok := stamp.Seconds(d); got != 0 || ok {
			t.Errorf("Seconds(%v) = %d, %v; want false", d, got, ok)
		}
	}
}

// text is the time in seconds, written from its digits: those behind the point are three, without the zeros at the end.
func text(ms int64) string {
	if ms < -most || ms > most {
		return ""
	}
	sign := ""
	if ms < 0 {
		sign, ms = "-", -ms
	}
	behind := strings.TrimRight(strconv.FormatInt(1000+ms%1000, 10)[1:], "0")
	if behind != "" {
		behind = "." + behind
	}
	return sign + strconv.FormatInt(ms/1000, 10) + behind
}

func TestP6_3Text(t *testing.T) {
	numbers(func(n int64) {
		if got := stamp.Text(n); got != text(n) {
			t.Errorf("Text(%d) = %q; want %q", n, got, text(n))
		}
	})
	for n, want := range map[int64]string{0: "0", 1500: "1.5", 1: "0.001", -10: "-0.01", 100: "0.1", 1000: "1", -1000000: "-1000", most: "1125899906842.624", -most: "-1125899906842.624", most + 1: "", -most - 1: "", math.MaxInt64: "", math.MinInt64: ""} {
		if got := stamp.Text(n); got != want {
			t.Errorf("Text(%d) = %q; want %q", n, got, want)
		}
	}
}

func TestP6_4Units(t *testing.T) {
	for unit := range 4 {
		there, back := 0, 0
		numbers(func(n int64) {
			if ms, ok := stamp.Ms(n, unit); ok {
				there++
				if got, ok := stamp.Of(ms, unit); got != n || !ok {
					t.Errorf("Of(Ms(%d, %d)) = %d, %v", n, unit, got, ok)
				}
			}
			if in, ok := stamp.Of(n, unit); ok {
				back++
				if got, ok := stamp.Ms(in, unit); got != n || !ok {
					t.Errorf("Ms(Of(%d, %d)) = %d, %v", n, unit, got, ok)
				}
			}
		})
		if there < 1000 || back < 1000 {
			t.Errorf("unit %d: only %d numbers are times, and only %d times are numbers", unit, there, back)
		}
	}
}

func TestP6_4Text(t *testing.T) {
	times := 0
	numbers(func(n int64) {
		if n < -most || n > most {
			return
		}
		times++
		d, e, _ := dec.Parse(stamp.Text(n))
		if got, ok := stamp.Seconds(d); e != api.OK || got != n || !ok {
			t.Errorf("Seconds of Text(%d) = %d, %v", n, got, ok)
		}
	})
	if times < 1000 {
		t.Errorf("only %d times", times)
	}
}
