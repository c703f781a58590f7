package out_test

import (
	"math"
	"slices"
	"strings"
	"testing"

	"polyglot/api"
	"polyglot/out"
)

// model is the definition of a buffer, word by word.
type model struct {
	most int
	text string
	full bool
}

func (m model) put(parts []string) (model, bool) {
	text := m.text + strings.Join(parts, "")
	if m.full || len(text) > m.most {
		m.full = true
		return m, false
	}
	m.text = text
	return m, true
}

func (m model) left() int {
	if m.full {
		return 0
	}
	return m.most - len(m.text)
}

func check(t *testing.T, o *out.Out, want model) {
	t.Helper()
	if got := o.Text(); got != want.text {
		t.Fatalf("Text() = %q; want %q", got, want.text)
	}
	if got := o.Len(); got != len(want.text) {
		t.Fatalf("Len() = %d; want %d", got, len(want.text))
	}
	if got := o.Left(); got != want.left() {
		t.Fatalf("Left() = %d; want %d", got, want.left())
	}
	if got := o.Full(); got != want.full {
		t.Fatalf("Full() = %v; want %v", got, want.full)
	}
}

func put(t *testing.T, o *out.Out, want bool, parts ...string) {
	t.Helper()
	if got := o.Put(parts...); got != want {
		t.Fatalf("Put of %d parts, %.60q = %v; want %v", len(parts), parts, got, want)
	}
}

// some holds lists of parts: none, parts of no bytes, and a byte or more in one part or in several.
var some = [][]string{nil, {""}, {"", ""}, {"a"}, {"", "b", ""}, {"c", "d"}, {"ef"}, {"g", "hi"}}

// eachScript calls f with every list of up to most lists of parts out of some.
func eachScript(most int, f func([][]string)) {
	var grow func([][]string)
	grow = func(l [][]string) {
		f(l)
		if len(l) == most {
			return
		}
		for _, parts := range some {
			grow(append(slices.Clone(l), parts))
		}
	}
	grow(nil)
}

func TestP3_1AllShortScripts(t *testing.T) {
	for most := range 6 {
		eachScript(4, func(script [][]string) {
			o, m := out.New(most), model{most: most}
			check(t, o, m)
			for _, parts := range script {
				var want bool
				m, want = m.put(parts)
				put(t, o, want, parts...)
				check(t, o, m)
			}
		})
	}
}

func TestP3_1NewWithoutSpace(t *testing.T) {
	for _, most := range []int{0, -1, -2, -api.MaxOut, math.MinInt32, math.MinInt} {
		o := out.New(most)
		check(t, o, model{})
		put(t, o, true)
		put(t, o, true, "", "")
		check(t, o, model{})
		put(t, o, false, "a")
		check(t, o, model{full: true})
		put(t, o, false)
	}
}

func TestP3_1NewAroundTheMaximum(t *testing.T) {
	for _, most := range []int{api.MaxOut - 1, api.MaxOut, api.MaxOut + 1, math.MaxInt32, math.MaxInt} {
		size := min(most, api.MaxOut)
		o := out.New(most)
		check(t, o, model{most: size})
		put(t, o, true, strings.Repeat("x", size-1), "", "y")
		whole := strings.Repeat("x", size-1) + "y"
		check(t, o, model{most: size, text: whole})
		put(t, o, true)
		put(t, o, false, "z")
		check(t, o, model{most: size, text: whole, full: true})

		o = out.New(most)
		put(t, o, false, strings.Repeat("x", size+1))
		check(t, o, model{most: size, full: true})
	}
}

func TestP3_1ByteByByteUpToTheMaximum(t *testing.T) {
	o := out.New(math.MaxInt)
	for i := range api.MaxOut {
		put(t, o, true, "abcdefg"[i%7:i%7+1])
		if o.Len() != i+1 || o.Left() != api.MaxOut-i-1 || o.Full() {
			t.Fatalf("after %d bytes: Len() = %d, Left() = %d, Full() = %v", i+1, o.Len(), o.Left(), o.Full())
		}
	}
	whole := strings.Repeat("abcdefg", api.MaxOut/7+1)[:api.MaxOut]
	check(t, o, model{most: api.MaxOut, text: whole})
	put(t, o, false, "h")
	check(t, o, model{most: api.MaxOut, text: whole, full: true})
}

// A buffer whose space is all taken is not full: only a Put that failed makes it so.
func TestP3_1TakenIsNotFull(t *testing.T) {
	o := out.New(3)
	put(t, o, true, "abc")
	check(t, o, model{most: 3, text: "abc"})
	put(t, o, true)
	put(t, o, true, "")
	check(t, o, model{most: 3, text: "abc"})
	put(t, o, false, "d")
	check(t, o, model{most: 3, text: "abc", full: true})
	put(t, o, false)
	put(t, o, false, "")
	check(t, o, model{most: 3, text: "abc", full: true})
}

// Space that a failed Put has left over can't be used any more.
func TestP3_1FullStaysFull(t *testing.T) {
	o := out.New(5)
	put(t, o, true, "ab")
	put(t, o, false, "cdef")
	for _, parts := range some {
		put(t, o, false, parts...)
		check(t, o, model{most: 5, text: "ab", full: true})
	}
}

func TestP3_1AnyBytes(t *testing.T) {
	all := make([]byte, 256)
	for i := range all {
		all[i] = byte(i)
	}
	o := out.New(600)
	put(t, o, true, string(all), "\x00", "\xff\n", string(all))
	check(t, o, model{most: 600, text: string(all) + "\x00\xff\n" + string(all)})
}

func TestP3_1TheTextStaysAsItWas(t *testing.T) {
	o := out.New(9)
	put(t, o, true, "ab")
	before := o.Text()
	put(t, o, true, "cd")
	put(t, o, false, "too much")
	if before != "ab" || o.Text() != "abcd" {
		t.Errorf("the text was %q, then %q; want ab, abcd", before, o.Text())
	}
}

func TestP3_1PartsAreNeitherChangedNorKept(t *testing.T) {
	spare := []string{"a", "b", "c", "behind"}
	parts := spare[:3]
	o := out.New(9)
	put(t, o, true, parts...)
	put(t, o, true, spare[:1]...)
	if !slices.Equal(spare, []string{"a", "b", "c", "behind"}) {
		t.Errorf("the parts became %q", spare)
	}
	clear(spare)
	check(t, o, model{most: 9, text: "abca"})
}

func TestP3_1BuffersAreApart(t *testing.T) {
	o, p := out.New(4), out.New(4)
	put(t, o, true, "ab")
	check(t, p, model{most: 4})
	put(t, p, false, "12345")
	check(t, o, model{most: 4, text: "ab"})
	copied := *o
	put(t, o, true, "c")
	put(t, &copied, true, "d")
	check(t, o, model{most: 4, text: "abc"})
	check(t, &copied, model{most: 4, text: "abd"})
}

// Whichever part is the first without space, none is appended, and what stood there stands.
func TestP3_2AllOrNothing(t *testing.T) {
	for used := range 4 {
		for size := 1; size <= 6; size++ {
			for cut := range size + 1 {
				head := "pqr"[:used]
				o := out.New(6)
				put(t, o, true, head)
				whole := "abcdef"[:size]
				fits := used+size <= 6
				put(t, o, fits, whole[:cut], "", whole[cut:])
				want := model{most: 6, text: head, full: !fits}
				if fits {
					want.text += whole
				}
				check(t, o, want)
			}
		}
	}
}

func TestP3_2Example(t *testing.T) {
	o := out.New(2)
	put(t, o, false, "a", "bc")
	check(t, o, model{most: 2, full: true})
	put(t, o, false, "a")
	check(t, o, model{most: 2, full: true})
}

// Many small parts, of which only the very last has no space.
func TestP3_2TheLastPartOfMany(t *testing.T) {
	parts := slices.Repeat([]string{"x"}, 101)
	o := out.New(100)
	put(t, o, false, parts...)
	check(t, o, model{most: 100, full: true})
	o = out.New(101)
	put(t, o, true, parts...)
	check(t, o, model{most: 101, text: strings.Repeat("x", 101)})
}
