package spot_test

import (
	"math"
	"slices"
	"strings"
	"testing"

	"polyglot/api"
	"polyglot/spot"
)

// eachText calls f with every text of up to most bytes of the alphabet.
func eachText(alphabet string, most int, f func(string)) {
	var grow func(string)
	grow = func(s string) {
		f(s)
		if len(s) == most {
			return
		}
		for i := range len(alphabet) {
			grow(s + alphabet[i:i+1])
		}
	}
	grow("")
}

// walk returns the spot of an offset within s, by going there byte by byte.
func walk(s string, off int) api.Spot {
	at := api.Spot{Off: off, Line: 1, Col: 1}
	for i := range off {
		at.Col++
		if s[i] == '\n' {
			at.Line++
			at.Col = 1
		}
	}
	return at
}

func wantSpot(t *testing.T, s string, off int, want api.Spot) {
	t.Helper()
	if got := spot.Of(s, off); got != want {
		t.Fatalf("Of(%q, %d) = %+v; want %+v", s, off, got, want)
	}
	for _, code := range []api.Errno{api.ErrArg, api.ErrSyntax, api.ErrTime, -1, math.MinInt, math.MaxInt} {
		if got := spot.At(code, s, off); got != (api.Fault{Code: code, Spot: want}) {
			t.Fatalf("At(%d, %q, %d) = %+v; want the spot %+v", code, s, off, got, want)
		}
	}
	if got := spot.At(api.OK, s, off); got != (api.Fault{}) {
		t.Fatalf("At(OK, %q, %d) = %+v; want the zero Fault", s, off, got)
	}
}

func TestP2_1Examples(t *testing.T) {
	rows := []struct {
		s              string
		off, line, col int
	}{
		{"a\nb", 0, 1, 1},
		{"a\nb", 1, 1, 2},
		{"a\nb", 2, 2, 1},
		{"a\nb", 3, 2, 2},
		{"\n", 0, 1, 1},
		{"\n", 1, 2, 1},
		{"\n\n\n", 3, 4, 1},
		{"", 0, 1, 1},
		{"ab\r\ncd", 3, 1, 4},
		{"ab\r\ncd", 4, 2, 1},
		{"ab\rcd", 5, 1, 6},
		{"\xe2\x82\xacx", 3, 1, 4},
		{"\xe2\x80\xa8x", 4, 1, 5},
		{"\x8a\x0b\x0c\x00\xff", 5, 1, 6},
	}
	for _, row := range rows {
		wantSpot(t, row.s, row.off, api.Spot{Off: row.off, Line: row.line, Col: row.col})
	}
}

func TestP2_1EveryOffsetOfShortTexts(t *testing.T) {
	eachText("a\n\r\xe2", 5, func(s string) {
		for off := 0; off <= len(s); off++ {
			wantSpot(t, s, off, walk(s, off))
		}
	})
}

func TestP2_1EveryOffsetOfALongText(t *testing.T) {
	s := strings.Repeat("\n", 70000) + strings.Repeat("x", 70000) + "\ny"
	for _, off := range []int{0, 1, 255, 256, 65535, 65536, 69999, 70000, 70001, 139999, 140000, 140001, 140002} {
		wantSpot(t, s, off, walk(s, off))
	}
}

func TestP2_1OffsetsOutsideTheText(t *testing.T) {
	eachText("a\n", 3, func(s string) {
		for _, off := range []int{math.MinInt, math.MinInt32, -2, -1} {
			wantSpot(t, s, off, walk(s, 0))
		}
		for _, off := range []int{len(s) + 1, len(s) + 2, math.MaxInt32, math.MaxInt} {
			wantSpot(t, s, off, walk(s, len(s)))
		}
	})
}

// choose is the definition of First, word by word: the least Off of those that
// are faults, and then the first fault that has it.
func choose(l []api.Fault) api.Fault {
	faults := slices.DeleteFunc(slices.Clone(l), func(f api.Fault) bool { return f.Code == api.OK })
	least := math.MaxInt
	for _, f := range faults {
		least = min(least, f.Off)
	}
	for _, f := range faults {
		if f.Off == least {
			return f
		}
	}
	return api.Fault{}
}

func TestP2_2FirstOfAllShortLists(t *testing.T) {
	some := []api.Fault{
		{},
		{Spot: api.Spot{Off: -9, Line: 1, Col: 1}},
		spot.At(api.ErrSyntax, "a\nb", 2),
		spot.At(api.ErrRange, "abc", 2),
		spot.At(api.ErrLimit, "a\nb", 0),
		{Code: -1, Spot: api.Spot{Off: 0, Line: 9, Col: 9}},
		{Code: api.ErrArg, Spot: api.Spot{Off: math.MinInt}},
		{Code: api.ErrArg, Spot: api.Spot{Off: math.MaxInt, Line: -1, Col: -1}},
	}
	var grow func([]api.Fault)
	grow = func(l []api.Fault) {
		kept := slices.Clone(l)
		if got, want := spot.First(l...), choose(l); got != want {
			t.Fatalf("First(%+v) = %+v; want %+v", l, got, want)
		}
		if !slices.Equal(l, kept) {
			t.Fatalf("First changed %+v to %+v", kept, l)
		}
		if len(l) == 4 {
			return
		}
		for _, f := range some {
			grow(append(slices.Clone(l), f))
		}
	}
	grow(nil)
}

func TestP2_2FirstExamples(t *testing.T) {
	s := "a\nb\nc"
	early, late := spot.At(api.ErrRange, s, 2), spot.At(api.ErrSyntax, s, 4)
	same := spot.At(api.ErrLimit, s, 2)
	rows := []struct {
		l    []api.Fault
		want api.Fault
	}{
		{nil, api.Fault{}},
		{[]api.Fault{{}, {}}, api.Fault{}},
		{[]api.Fault{late}, late},
		{[]api.Fault{early, late}, early},
		{[]api.Fault{late, early}, early},
		{[]api.Fault{late, early, same}, early},
		{[]api.Fault{late, same, early}, same},
		{[]api.Fault{{}, late, {}}, late},
		{[]api.Fault{{Spot: api.Spot{Off: 1, Line: 1, Col: 2}}}, api.Fault{}},
	}
	for i, row := range rows {
		if got := spot.First(row.l...); got != row.want {
			t.Errorf("row %d: First = %+v; want %+v", i, got, row.want)
		}
	}
	if got := spot.First(); got != (api.Fault{}) {
		t.Errorf("First() = %+v; want the zero Fault", got)
	}
}

func TestP2_2GoodIsWhatAtReturns(t *testing.T) {
	for _, s := range []string{"", "a", "\n", "a\nb", "\n\nab"} {
		if !spot.Good(api.Fault{}, s) {
			t.Errorf("the zero Fault is not Good in %q", s)
		}
		for off := -1; off <= len(s)+1; off++ {
			for _, code := range []api.Errno{api.ErrArg, api.ErrTime, -7, 77} {
				if f := spot.At(code, s, off); !spot.Good(f, s) {
					t.Errorf("At(%d, %q, %d) = %+v is not Good", code, s, off, f)
				}
			}
		}
	}
}

// Of all faults around a text, those are Good that have the spot of an offset
// within it, and the zero Fault.
func TestP2_2NothingElseIsGood(t *testing.T) {
	eachText("a\n", 3, func(s string) {
		for off := -1; off <= len(s)+1; off++ {
			for line := -1; line <= 5; line++ {
				for col := -1; col <= 5; col++ {
					at := api.Spot{Off: off, Line: line, Col: col}
					inside := 0 <= off && off <= len(s) && at == walk(s, off)
					for _, code := range []api.Errno{api.ErrSyntax, -1, 77} {
						if got := spot.Good(api.Fault{Code: code, Spot: at}, s); got != inside {
							t.Fatalf("Good of code %d, %+v in %q = %v; want %v", code, at, s, got, inside)
						}
					}
					if got, want := spot.Good(api.Fault{Spot: at}, s), at == (api.Spot{}); got != want {
						t.Fatalf("Good of code OK, %+v in %q = %v; want %v", at, s, got, want)
					}
				}
			}
		}
	})
}

func TestP2_2GoodOfFarOffsets(t *testing.T) {
	for _, off := range []int{math.MinInt, -1, 4, math.MaxInt} {
		for _, at := range []api.Spot{{Off: off}, {Off: off, Line: 1, Col: 1}, {Off: off, Line: 2, Col: 2}, {Off: off, Line: 1, Col: off}} {
			if f := (api.Fault{Code: api.ErrForm, Spot: at}); spot.Good(f, "a\nb") {
				t.Errorf("%+v is Good in a text of 3 bytes", f)
			}
		}
	}
}

func TestP2_3AFaultContainsItsSpot(t *testing.T) {
	s := "ab\ncd\n\nef"
	for off := 0; off <= len(s); off++ {
		f, at := spot.At(api.ErrSyntax, s, off), spot.Of(s, off)
		if f.Spot != at || f.Off != at.Off || f.Line != at.Line || f.Col != at.Col {
			t.Errorf("the fault at %d is %+v; want the spot %+v", off, f, at)
		}
		for other := 0; other <= len(s); other++ {
			g := spot.At(api.ErrRange, s, other)
			if got := f.Before(g.Spot); got != (off < other) || got != at.Before(g.Spot) {
				t.Errorf("the fault at %d before the one at %d: %v", off, other, got)
			}
		}
	}
}

// What a fault tells is what its spot tells, also of the fault that First picks.
func TestP2_3FirstKeepsTheSpot(t *testing.T) {
	s := "ab\ncd\n\nef"
	for off := 0; off <= len(s); off++ {
		f := spot.First(spot.At(api.ErrRange, s, len(s)), api.Fault{}, spot.At(api.ErrSyntax, s, off))
		if at := spot.Of(s, off); f.Spot != at || f.Off != at.Off || f.Line != at.Line || f.Col != at.Col {
			t.Errorf("the first fault is %+v; want the spot %+v", f, at)
		}
		if off < len(s) && f.Code != api.ErrSyntax {
			t.Errorf("the first fault has the code %d; want %d", f.Code, api.ErrSyntax)
		}
	}
}
