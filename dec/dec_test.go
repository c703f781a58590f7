package dec_test

import (
	"math"
	"math/big"
	"math/rand"
	"regexp"
	"strings"
	"testing"

	"polyglot/api"
	"polyglot/dec"
)

var (
	isText  = regexp.MustCompile(`^-?[0-9]+(\.[0-9]+)?$`)
	isBegun = regexp.MustCompile(`^-?$|^-?[0-9]+(\.[0-9]*)?$`)
)

// viable returns the length of the longest prefix of s with which a text begins.
func viable(s string) int {
	n := len(s)
	for n > 0 && (s[n-1] == '\n' || !isBegun.MatchString(s[:n])) {
		n--
	}
	return n
}

func power(s int) *big.Int {
	return new(big.Int).Exp(big.NewInt(10), big.NewInt(int64(s)), nil)
}

// valid is the definition of a valid decimal, word by word, in decimal digits.
func valid(d api.Dec) bool {
	text := big.NewInt(d.M).String()
	return d.S >= 0 && d.S <= 18 && text != "-9223372036854775808" && (d.S == 0 || !strings.HasSuffix(text, "0"))
}

// normal returns the valid decimal that equals x, looked for among all scales.
func normal(x *big.Rat) (api.Dec, bool) {
	for s := range 19 {
		m := new(big.Rat).Mul(x, new(big.Rat).SetInt(power(s)))
		if !m.IsInt() || !m.Num().IsInt64() {
			continue
		}
		if d := (api.Dec{M: m.Num().Int64(), S: s}); valid(d) {
			return d, true
		}
	}
	return api.Dec{}, false
}

func parse(s string) (api.Dec, api.Errno, int) {
	if strings.Contains(s, "\n") || !isText.MatchString(s) {
		return api.Dec{}, api.ErrSyntax, viable(s)
	}
	x, ok := new(big.Rat).SetString(s)
	if !ok {
		panic(s)
	}
	d, ok := normal(x)
	if !ok {
		return api.Dec{}, api.ErrRange, 0
	}
	return d, api.OK, 0
}

func checkParse(t *testing.T, s string) {
	t.Helper()
	d, e, n := dec.Parse(s)
	wantD, wantE, wantN := parse(s)
	if d != wantD || e != wantE || n != wantN {
		t.Errorf("Parse(%.80q) = %v, %d, %d; want %v, %d, %d", s, d, e, n, wantD, wantE, wantN)
	}
}

func checkNorm(t *testing.T, m int64, s int) {
	t.Helper()
	var want api.Dec
	ok := s >= 0
	if ok {
		want, ok = normal(new(big.Rat).SetFrac(big.NewInt(m), power(s)))
	}
	if got, gotOK := dec.Norm(m, s); got != want || gotOK != ok {
		t.Errorf("Norm(%d, %d) = %v, %v; want %v, %v", m, s, got, gotOK, want, ok)
	}
}

// some returns numbers of all sizes: small ones, powers of ten and of two with
// their multiples and neighbours, the ends of int64.
func some() []int64 {
	var l []int64
	for m := int64(-130); m <= 130; m++ {
		l = append(l, m)
	}
	for p := int64(1000); p < math.MaxInt64/10; p *= 10 {
		for _, m := range []int64{p - 1, p, p + 1, 2 * p, 5 * p, 9 * p, 9*p + p/10, 9*p + 1} {
			l = append(l, m, -m)
		}
	}
	for p := int64(1) << 20; p > 0; p *= 2 {
		l = append(l, p-1, 1-p, p, -p)
	}
	for d := range int64(30) {
		l = append(l, math.MaxInt64-d, math.MinInt64+d)
	}
	return append(l, 9e18, -9e18, 9.2e18, -9.2e18, 1e18, -1e18)
}

func TestP4_1Good(t *testing.T) {
	scales := []int{math.MinInt, math.MinInt32, -18, -2, 36, 100, math.MaxInt32, math.MaxInt}
	for s := -1; s <= 21; s++ {
		scales = append(scales, s)
	}
	for _, m := range some() {
		for _, s := range scales {
			d := api.Dec{M: m, S: s}
			if got := dec.Good(d); got != valid(d) {
				t.Errorf("Good(%v) = %v; want %v", d, got, !got)
			}
		}
	}
}

func TestP4_1Norm(t *testing.T) {
	for _, m := range some() {
		for s := -2; s <= 40; s++ {
			checkNorm(t, m, s)
		}
	}
}

// Scales far from all valid ones: only 0 has a decimal there.
func TestP4_1NormAtTheEnds(t *testing.T) {
	for _, m := range some() {
		for _, s := range []int{math.MinInt, math.MinInt32, -1000, 1000, math.MaxInt32, math.MaxInt} {
			got, ok := dec.Norm(m, s)
			if want := m == 0 && s > 0; got != (api.Dec{}) || ok != want {
				t.Errorf("Norm(%d, %d) = %v, %v; want %v, %v", m, s, got, ok, api.Dec{}, want)
			}
		}
	}
}

// A valid decimal is its own valid form, and each number has only one.
func TestP4_1OneForm(t *testing.T) {
	for _, m := range some() {
		for s := range 19 {
			d := api.Dec{M: m, S: s}
			got, ok := dec.Norm(m, s)
			if dec.Good(d) && (got != d || !ok) {
				t.Errorf("Norm(%d, %d) = %v, %v; it is valid as it is", m, s, got, ok)
			}
			if ok && !dec.Good(got) {
				t.Errorf("Norm(%d, %d) = %v, which is not valid", m, s, got)
			}
		}
	}
}

func TestP4_2AllShortStrings(t *testing.T) {
	letters := []string{"-", ".", "0", "1", "9", "x"}
	var grow func(string, int)
	grow = func(s string, left int) {
		checkParse(t, s)
		if left == 0 {
			return
		}
		for _, c := range letters {
			grow(s+c, left-1)
		}
	}
	grow("", 6)
}

// Every byte in every place of some texts, besides and instead of the one there.
func TestP4_2EveryByteEverywhere(t *testing.T) {
	for _, s := range []string{"", "7", "-7", "12", "-0.5", "10.25"} {
		for at := range len(s) + 1 {
			for c := range 256 {
				one := string([]byte{byte(c)})
				checkParse(t, s[:at]+one+s[at:])
				if at < len(s) {
					checkParse(t, s[:at]+one+s[at+1:])
				}
			}
		}
	}
}

func TestP4_2OtherDigitsAndSigns(t *testing.T) {
	for _, s := range []string{"+1", "+", "٣", "1٣", "1.٣", "−1", "1,5", "1_000", "0x10", "1e5", "1.5E2", "1/3", "Inf", "NaN", "-Inf", " 1", "1 ", "1\n", "1.\n", "1.5\n", "\x00", "1\x00", "1.\xff"} {
		checkParse(t, s)
	}
}

// pointed returns the digits of m with a point before the last s of them.
func pointed(m *big.Int, s int) string {
	if s == 0 {
		return m.String()
	}
	return new(big.Rat).SetFrac(m, power(s)).FloatString(s)
}

// The numbers around the greatest and the least M, with the point in each place.
func TestP4_2RangeOfM(t *testing.T) {
	for d := -25; d <= 25; d++ {
		m := new(big.Int).Add(big.NewInt(math.MaxInt64), big.NewInt(int64(d)))
		for s := range 22 {
			for _, shape := range []string{"x", "-x", "000x", "-0x"} {
				text := strings.Replace(shape, "x", pointed(m, s), 1)
				checkParse(t, text)
				checkParse(t, text+"0")
				if s > 0 {
					checkParse(t, text+"000")
				}
			}
		}
	}
}

func TestP4_2ManyDigits(t *testing.T) {
	for n := range 45 {
		for _, c := range []string{"0", "1", "9"} {
			run := strings.Repeat(c, n)
			for _, s := range []string{run, "1" + run, "9" + run, "0." + run, "0." + run + "1", "1." + run, "1." + run + "1", run + ".0", run + ".5", run + "." + run, "1" + run + ".10", "9.2" + run} {
				checkParse(t, s)
				checkParse(t, "-"+s)
				checkParse(t, s+"x")
			}
		}
	}
}

// 64 bits wrap round at 2 to the power of 64: no such number may be taken for a small one.
func TestP4_2NoWrapRound(t *testing.T) {
	for p := uint(62); p <= 140; p++ {
		for d := -2; d <= 2; d++ {
			m := new(big.Int).Add(new(big.Int).Lsh(big.NewInt(1), p), big.NewInt(int64(d)))
			for s := range 20 {
				checkParse(t, pointed(m, s))
				checkParse(t, "-"+pointed(m, s))
			}
		}
	}
}

func TestP4_2ManyZeros(t *testing.T) {
	zeros := strings.Repeat("0", 3000)
	for _, s := range []string{zeros, "-" + zeros, zeros + "." + zeros, zeros + "12.5" + zeros, "-" + zeros + "12.05" + zeros, zeros + ".000000000000000001" + zeros, zeros + ".0000000000000000001" + zeros, zeros + "9223372036854775807." + zeros, zeros + "9223372036854775808." + zeros, "1" + zeros, "0." + zeros + "1", zeros + ".", zeros + "1.2" + zeros + "."} {
		checkParse(t, s)
	}
}

func TestP4_2Print(t *testing.T) {
	for _, m := range some() {
		for s := -1; s <= 20; s++ {
			d, want := api.Dec{M: m, S: s}, ""
			if valid(d) {
				want = pointed(big.NewInt(m), s)
			}
			if got := dec.Print(d); got != want {
				t.Errorf("Print(%v) = %q; want %q", d, got, want)
			}
		}
	}
}

func TestP4_2PrintFarScales(t *testing.T) {
	for _, m := range some() {
		for _, s := range []int{math.MinInt, -1000, 1000, math.MaxInt} {
			if got := dec.Print(api.Dec{M: m, S: s}); got != "" {
				t.Errorf("Print of M %d, S %d = %q; want nothing", m, s, got)
			}
		}
	}
}

func TestP4_2Examples(t *testing.T) {
	if d, e, n := dec.Parse("-0.50"); d != (api.Dec{M: -5, S: 1}) || e != api.OK || n != 0 {
		t.Errorf("Parse(-0.50) = %v, %d, %d", d, e, n)
	}
	if d, e, n := dec.Parse("1."); d != (api.Dec{}) || e != api.ErrSyntax || n != 2 {
		t.Errorf("Parse(1.) = %v, %d, %d", d, e, n)
	}
	if s := dec.Print(api.Dec{}); s != "0" {
		t.Errorf("Print of 0 = %q", s)
	}
}

func checkBack(t *testing.T, d api.Dec) {
	t.Helper()
	text := dec.Print(d)
	if back, e, n := dec.Parse(text); back != d || e != api.OK || n != 0 {
		t.Fatalf("%v is printed as %q, which is %v, %d, %d", d, text, back, e, n)
	}
	// Other texts of the number: with zeros around it.
	if d.S == 0 {
		text += "."
	}
	for _, other := range []string{text + "0", text + "000", "0" + text + "0", "00000000000000000000" + text + "00000000000000000000"} {
		if strings.Contains(text, "-") {
			other = "-" + strings.Replace(other, "-", "", 1)
		}
		back, e, _ := dec.Parse(other)
		if e != api.OK || dec.Print(back) != dec.Print(d) {
			t.Fatalf("%q is printed as %q, %d; want %q", other, dec.Print(back), e, dec.Print(d))
		}
	}
}

func TestP4_3Back(t *testing.T) {
	for _, m := range some() {
		for s := range 19 {
			if d := (api.Dec{M: m, S: s}); valid(d) {
				checkBack(t, d)
			}
		}
	}
}

func TestP4_3BackFromAnywhere(t *testing.T) {
	r := rand.New(rand.NewSource(4))
	for range 20000 {
		m := r.Int63() >> r.Intn(63)
		if r.Intn(2) == 0 {
			m = -m
		}
		if d := (api.Dec{M: m, S: r.Intn(19)}); valid(d) {
			checkBack(t, d)
		}
	}
}

// 0 has a text with a - as well, and is printed without.
func TestP4_3Zeros(t *testing.T) {
	for _, s := range []string{"0", "-0", "00", "-00", "0.0", "-0.0", "-000.0000000000000000000000"} {
		if d, e, n := dec.Parse(s); d != (api.Dec{}) || e != api.OK || n != 0 || dec.Print(d) != "0" {
			t.Errorf("Parse(%q) = %v, %d, %d, printed as %q", s, d, e, n, dec.Print(d))
		}
	}
}
