package label_test

import (
	"math/rand"
	"slices"
	"sort"
	"strings"
	"testing"
	"unicode/utf8"

	"polyglot/api"
	"polyglot/label"
)

// of makes labels of names and values.
func of(l ...string) []api.Label {
	var all []api.Label
	for i := 0; i < len(l); i += 2 {
		all = append(all, api.Label{Name: l[i], Value: l[i+1]})
	}
	return all
}

// row makes n labels of ascending names.
func row(n int) []api.Label {
	var all []api.Label
	for i := range n {
		all = append(all, api.Label{Name: string(rune('a' + i)), Value: "v"})
	}
	return all
}

// each gives f all strings of some pieces, at most so many.
func each(pieces []string, most int, f func(s string)) {
	var grow func(s string, n int)
	grow = func(s string, n int) {
		f(s)
		if n == most {
			return
		}
		for _, p := range pieces {
			grow(s+p, n+1)
		}
	}
	grow("", 0)
}

// lists gives f all lists of some labels, at most so many.
func lists(from []api.Label, most int, f func(l []api.Label)) {
	var grow func(l []api.Label)
	grow = func(l []api.Label) {
		f(l)
		if len(l) == most {
			return
		}
		for _, x := range from {
			grow(append(slices.Clone(l), x))
		}
	}
	grow(nil)
}

// isName and isValue are what the chapter says of a name and of a value.
func isName(s string) bool {
	control := strings.IndexFunc(s, func(r rune) bool { return r < 32 || r == 127 })
	return s != "" && len(s) <= 60 && utf8.ValidString(s) && control < 0
}

func isValue(s string) bool { return len(s) <= 60 && utf8.ValidString(s) }

func checkText(t *testing.T, s string) {
	t.Helper()
	if got := label.Name(s); got != isName(s) {
		t.Errorf("Name(%q) = %v", s, got)
	}
	if got := label.Value(s); got != isValue(s) {
		t.Errorf("Value(%q) = %v", s, got)
	}
}

func TestP7_1EachByte(t *testing.T) {
	for b := range 256 {
		c := string([]byte{byte(b)})
		for _, s := range []string{c, "a" + c, c + "a", "a" + c + "a", "\xc3" + c, "\xe2\x82" + c, "€" + c + "€"} {
			checkText(t, s)
		}
	}
}

func TestP7_1Short(t *testing.T) {
	pieces := []string{"a", " ", "\x00", "\x1f", "\x7f", "\u0080", "\u009f", "é", "\u2028", "\ufffd", "😀", "\xc3", "\xa9", "\xed\xa0\x80", "\xf4\x90\x80\x80", "\xff"}
	each(pieces, 4, func(s string) { checkText(t, s) })
}

func TestP7_1Lengths(t *testing.T) {
	for _, c := range []string{"a", "é", "€", "😀", "\n", "\xff"} {
		for n := range 70 {
			for _, s := range []string{strings.Repeat(c, n), "x" + strings.Repeat(c, n), strings.Repeat(c, n) + "\x7f", strings.Repeat(c, n) + "\xc3"} {
				checkText(t, s)
			}
		}
	}
	checkText(t, strings.Repeat("a", 1<<20))
}

func TestP7_1Texts(t *testing.T) {
	long := strings.Repeat("€", 20)
	for _, x := range []struct {
		s           string
		name, value bool
	}{
		{"", false, true},
		{"a", true, true},
		{" ", true, true},
		{"le=\"1\",", true, true},
		{"\u0080\u009f", true, true},
		{"a\x1f", false, true},
		{"\x7fa", false, true},
		{"a\tb\nc", false, true},
		{"\xff", false, false},
		{"a\xe2\x82", false, false},
		{"\xed\xbf\xbf", false, false},
		{long, true, true},
		{long + "a", false, false},
		{long[:59] + "a", false, false},
	} {
		if label.Name(x.s) != x.name || label.Value(x.s) != x.value {
			t.Errorf("%q: Name %v, Value %v", x.s, label.Name(x.s), label.Value(x.s))
		}
	}
}

// isGood is what the chapter says of a list.
func isGood(l []api.Label) bool {
	var names []string
	seen := map[string]bool{}
	for _, x := range l {
		if !isName(x.Name) || !isValue(x.Value) || seen[x.Name] {
			return false
		}
		seen[x.Name] = true
		names = append(names, x.Name)
	}
	return len(l) <= 8 && sort.StringsAreSorted(names)
}

func TestP7_1GoodLists(t *testing.T) {
	from := of("a", "1", "a", "2", "aa", "", "B", "\n", "é", "x", "", "", "b\n", "", "c", "\xff")
	good := 0
	lists(from, 4, func(l []api.Label) {
		want := isGood(l)
		if want {
			good++
		}
		if got := label.Good(l); got != want {
			t.Errorf("Good(%q) = %v", l, got)
		}
	})
	// Of B, a, aa, é, where a has two values: 1, 5, 9, 7 and 2 lists of none to four.
	if good != 24 {
		t.Errorf("%d lists were good", good)
	}
}

func TestP7_1GoodCounts(t *testing.T) {
	for n := range 20 {
		if got := label.Good(row(n)); got != (n <= 8) {
			t.Errorf("Good of %d labels = %v", n, got)
		}
	}
	if !label.Good(nil) || !label.Good([]api.Label{}) {
		t.Error("no labels are not good")
	}
}

func TestP7_1GoodEachPlace(t *testing.T) {
	for n := 1; n <= 8; n++ {
		for at := range n {
			for _, bad := range []api.Label{{Name: "", Value: "v"}, {Name: string(rune('a'+at)) + "\n"}, {Name: string(rune('a'+at)) + "\xff"}, {Name: string(rune('a' + at)), Value: strings.Repeat("v", 61)}, {Name: string(rune('a' + at)), Value: "\xc3"}} {
				l := row(n)
				l[at] = bad
				if label.Good(l) {
					t.Errorf("Good(%q)", l)
				}
			}
			l := row(n)
			l[at].Value = strings.Repeat("v", 60)
			if !label.Good(l) {
				t.Errorf("not Good(%q)", l)
			}
			if at == 0 {
				continue
			}
			l = row(n)
			l[at-1], l[at] = l[at], l[at-1]
			if label.Good(l) {
				t.Errorf("Good(%q)", l)
			}
			l[at-1] = l[at]
			if label.Good(l) {
				t.Errorf("Good(%q)", l)
			}
		}
	}
}

// sorted is what the chapter says of Sort, by names that are taken out of a map.
func sorted(l []api.Label) ([]api.Label, bool) {
	at := map[string]string{}
	var names []string
	for _, x := range l {
		at[x.Name] = x.Value
		names = append(names, x.Name)
	}
	if len(at) < len(l) {
		return nil, false
	}
	sort.Strings(names)
	var all []api.Label
	for _, name := range names {
		all = append(all, api.Label{Name: name, Value: at[name]})
	}
	return all, true
}

func checkSort(t *testing.T, l []api.Label) {
	t.Helper()
	was := slices.Clone(l)
	want, is := sorted(l)
	got, ok := label.Sort(l...)
	if !slices.Equal(got, want) || ok != is {
		t.Errorf("Sort(%q) = %q, %v; want %q, %v", was, got, ok, want, is)
	}
	if !slices.Equal(l, was) {
		t.Errorf("Sort made %q of %q", l, was)
	}
}

func TestP7_2Sort(t *testing.T) {
	from := of("b", "1", "a", "2", "aa", "\xff", "", "x", "\xff", "", "B\n", "y", "a", "2")
	lists(from, 4, func(l []api.Label) { checkSort(t, l) })
	got, ok := label.Sort(of("b", "1", "a", "2")...)
	if !ok || !slices.Equal(got, of("a", "2", "b", "1")) {
		t.Errorf("Sort(b=1, a=2) = %q, %v", got, ok)
	}
}

func TestP7_2SortDrawn(t *testing.T) {
	draw := rand.New(rand.NewSource(7))
	for range 3000 {
		var l []api.Label
		for range draw.Intn(60) {
			name := make([]byte, draw.Intn(4))
			for i := range name {
				name[i] = byte(draw.Intn(256))
			}
			l = append(l, api.Label{Name: string(name), Value: string(rune('a' + draw.Intn(3)))})
		}
		checkSort(t, l)
	}
}

func TestP7_2SortSameNameAnywhere(t *testing.T) {
	for i := range 8 {
		for j := range i {
			l := row(8)
			l[i].Name = l[j].Name
			l[i].Value = "other"
			if got, ok := label.Sort(l...); len(got) > 0 || ok {
				t.Errorf("Sort(%q) = %q, %v", l, got, ok)
			}
		}
	}
}

func TestP7_2Get(t *testing.T) {
	from := of("a", "1", "a", "2", "", "3", "aa", "", "\xff", "\xfe")
	names := []string{"", "a", "aa", "A", "\xff", "b"}
	lists(from, 4, func(l []api.Label) {
		for _, name := range names {
			i := slices.IndexFunc(l, func(x api.Label) bool { return x.Name == name })
			want := ""
			if i >= 0 {
				want = l[i].Value
			}
			if got, ok := label.Get(l, name); got != want || ok != (i >= 0) {
				t.Errorf("Get(%q, %q) = %q, %v", l, name, got, ok)
			}
		}
	})
	l := row(20)
	l[19].Value = "last"
	if got, ok := label.Get(l, l[19].Name); got != "last" || !ok {
		t.Errorf("Get of the last one = %q, %v", got, ok)
	}
}

func TestP7_2Without(t *testing.T) {
	from := of("b", "1", "a", "2", "b", "3", "", "\xff")
	lists(from, 4, func(l []api.Label) {
		for _, names := range [][]string{nil, {"a"}, {"b"}, {""}, {"c"}, {"B"}, {"c", "b"}, {"a", "b"}, {"b", "b"}, {"b", "a", ""}} {
			was, asked := slices.Clone(l), slices.Clone(names)
			want := slices.DeleteFunc(slices.Clone(l), func(x api.Label) bool { return slices.Contains(names, x.Name) })
			if got := label.Without(l, names...); !slices.Equal(got, want) {
				t.Errorf("Without(%q, %q) = %q", l, names, got)
			}
			if !slices.Equal(l, was) || !slices.Equal(names, asked) {
				t.Errorf("Without made %q, %q of %q, %q", l, names, was, asked)
			}
		}
	})
}

// key is a string by which lists are ordered as the chapter says: each byte comes after
// the end of its string, and each label after the end of its list.
func key(l []api.Label) string {
	var b strings.Builder
	write := func(s string) {
		for i := range len(s) {
			b.WriteString("\x01" + s[i:i+1])
		}
		b.WriteByte(0)
	}
	for _, x := range l {
		b.WriteByte(1)
		write(x.Name)
		write(x.Value)
	}
	b.WriteByte(0)
	return b.String()
}

func TestP7_2Compare(t *testing.T) {
	from := of("", "", "", "b", "a", "", "a", "1", "a", "\xff", "a\x00", "0", "b", "")
	var all [][]api.Label
	lists(from, 3, func(l []api.Label) { all = append(all, l) })
	for _, a := range all {
		for _, b := range all {
			if got, want := label.Compare(a, b), strings.Compare(key(a), key(b)); got != want {
				t.Errorf("Compare(%q, %q) = %d; want %d", a, b, got, want)
			}
		}
	}
}

func TestP7_2CompareEmpty(t *testing.T) {
	if label.Compare(nil, []api.Label{}) != 0 || label.Compare([]api.Label{}, nil) != 0 {
		t.Error("an empty list is not the same as none")
	}
	if label.Compare(row(20), row(19)) != 1 || label.Compare(row(19), row(20)) != -1 || label.Compare(row(20), row(20)) != 0 {
		t.Error("long lists")
	}
}

// behind returns l with labels in its spare capacity, and all of that memory.
func behind(l []api.Label) ([]api.Label, []api.Label) {
	all := append(slices.Clone(l), of("behind", "1", "it", "2")...)
	return all[:len(l)], all
}

func TestP7_2Memory(t *testing.T) {
	calls := map[string]func(l []api.Label) []api.Label{
		"Sort":         func(l []api.Label) []api.Label { got, _ := label.Sort(l...); return got },
		"Without":      func(l []api.Label) []api.Label { return label.Without(l) },
		"Without last": func(l []api.Label) []api.Label { return label.Without(l, "c") },
	}
	for name, call := range calls {
		l, all := behind(row(3))
		was := slices.Clone(all)
		got, other := call(l), call(l)
		kept := slices.Clone(other)
		clear(append(got, of("x", "y")...))
		clear(got[:cap(got)])
		if !slices.Equal(all, was) || !slices.Equal(other, kept) {
			t.Errorf("%s shares memory: %q, %q", name, all, other)
		}
		clear(all)
		if !slices.Equal(other, kept) {
			t.Errorf("%s keeps its argument: %q", name, other)
		}
	}
}

func TestP7_2MemoryOfNone(t *testing.T) {
	none, all := behind(nil)
	was := slices.Clone(all)
	got, _ := label.Sort(none...)
	clear(append(got, of("x", "y")...))
	clear(append(label.Without(none, "a"), of("x", "y")...))
	clear(append(label.Without(all, "behind", "it"), of("x", "y")...))
	if !slices.Equal(all, was) {
		t.Errorf("what is behind none became %q", all)
	}
}

// orders gives f the labels in each order.
func orders(l []api.Label, f func(l []api.Label)) {
	var swap func(from int)
	swap = func(from int) {
		if from == len(l) {
			f(l)
			return
		}
		for i := from; i < len(l); i++ {
			l[from], l[i] = l[i], l[from]
			swap(from + 1)
			l[from], l[i] = l[i], l[from]
		}
	}
	swap(0)
}

func TestP7_3OneForm(t *testing.T) {
	want := of(" ", "f", "A", "e", "a", "d", "a!", "", "aa", "\n", "b", "g", "é", "b", "😀", "a")
	count := 0
	orders(slices.Clone(want), func(l []api.Label) {
		count++
		got, ok := label.Sort(l...)
		if !ok || !slices.Equal(got, want) || !label.Good(got) || label.Compare(got, want) != 0 {
			t.Fatalf("Sort(%q) = %q, %v", l, got, ok)
		}
		if again, ok := label.Sort(got...); !ok || !slices.Equal(again, got) {
			t.Fatalf("Sort(%q) = %q, %v", got, again, ok)
		}
		if label.Good(l) != slices.Equal(l, want) {
			t.Fatalf("Good(%q) = %v", l, label.Good(l))
		}
	})
	if count != 40320 {
		t.Errorf("%d orders", count)
	}
}

// TestP7_3SameSet holds the lists of which both are good and have the same labels: they
// are the same list.
func TestP7_3SameSet(t *testing.T) {
	from := of("a", "1", "b", "2", "b", "1", "c", "")
	var good [][]api.Label
	lists(from, 4, func(l []api.Label) {
		if label.Good(l) {
			good = append(good, l)
		}
	})
	for _, a := range good {
		for _, b := range good {
			set := len(a) == len(b)
			for _, x := range a {
				set = set && slices.Contains(b, x)
			}
			if (label.Compare(a, b) == 0) != set {
				t.Errorf("Compare(%q, %q) = %d", a, b, label.Compare(a, b))
			}
		}
	}
}
