package openword_test

import (
	"reflect"
	"regexp"
	"slices"
	"strings"
	"testing"
	"unicode/utf8"

	"polyglot/api"
	"polyglot/openword"
)

// The chapter's words, as regular expressions.
const (
	nameForm   = `[A-Za-z_:][A-Za-z0-9_:]*`
	valueForm  = `(?:[^\n"\\]|\\["\\n])*`
	labelForm  = `([A-Za-z_][A-Za-z0-9_]*)="(` + valueForm + `)"`
	numberForm = `-?[0-9]+(?:\.[0-9]+)?`
	typeForm   = `# (TYPE) (` + nameForm + `) ([a-z]+)`
	unitForm   = `# (UNIT) (` + nameForm + `) ([A-Za-z0-9_:]+)`
	helpForm   = `# (HELP) (` + nameForm + `) ((?:[^\n\\]|\\[\\n])*)`
	sampleForm = `(` + nameForm + `)(\{(?:` + labelForm + `(?:,` + labelForm + `)*)?\})? (` + numberForm + `)(?: (` + numberForm + `))?`
	lineForm   = `(?:` + typeForm + `|` + unitForm + `|` + helpForm + `|` + sampleForm + `)`
)

var (
	whole   = regexp.MustCompile(`\A(?:` + lineForm + `\n)*# EOF\n?\z`)
	remarks = regexp.MustCompile(`\A(?:` + typeForm + `|` + unitForm + `|` + helpForm + `)\z`)
	label   = regexp.MustCompile(labelForm)
	sample  = regexp.MustCompile(`\A(` + nameForm + `)(\{.*\})? (` + numberForm + `)(?: (` + numberForm + `))?\z`)
)

func isPayload(s string) bool { return utf8.ValidString(s) && whole.MatchString(s) }

// ends are what can be missing of a payload that was cut off, wherever that was.
var ends = func() []string {
	const eof = "\n# EOF"
	all := []string{
		"", "# EOF", " EOF", "EOF", "OF", "F", eof,
		"YPE a a" + eof, "PE a a" + eof, "NIT a a" + eof, "IT a a" + eof, "T a a" + eof, "ELP a a" + eof, "LP a a" + eof, "P a a" + eof, "E a a" + eof,
		" a a" + eof, "a a" + eof, " a" + eof, "a" + eof, "n" + eof,
		"1" + eof, " 1" + eof, "} 1" + eof, `a=""} 1` + eof, `=""} 1` + eof, `""} 1` + eof, `"} 1` + eof, `n"} 1` + eof,
	}
	for _, rest := range []string{"\x80", "\x80\x80", "\x80\x80\x80", "\xa0\x80", "\x90\x80\x80"} {
		all = append(all, rest+eof, rest+`"} 1`+eof)
	}
	return all
}()

// viable has what is known of prefixes.
var viable = map[string]bool{}

// isViable tells whether some payload begins with s.
func isViable(s string) bool {
	is, known := viable[s]
	if !known {
		is = slices.ContainsFunc(ends, func(end string) bool { return isPayload(s + end) })
		viable[s] = is
	}
	return is
}

// badFrom is the chapter's Bad of s, whose first n bytes a payload begins with.
func badFrom(s string, n int) int {
	if isPayload(s) {
		return -1
	}
	for n < len(s) && isViable(s[:n+1]) {
		n++
	}
	return n
}

// held tells whether Bad of s, and whether there are Rows, is as expected.
func held(t *testing.T, s string, want int) {
	t.Helper()
	if got := openword.Bad(s); got != want {
		t.Errorf("Bad(%q): %d, want %d", s, got, want)
	}
	rows, ok := openword.Rows(s)
	if ok != (want < 0) || !ok && len(rows) > 0 {
		t.Errorf("Rows(%q): %d rows, %v", s, len(rows), ok)
	}
}

// payloads are short ones which have all parts between them.
var payloads = []string{
	"# EOF",
	"# EOF\n",
	"# TYPE a:b_1 gauge\n# EOF",
	"# UNIT _x 9s_:Z\n# EOF\n",
	"# HELP :a \n# EOF",
	"# HELP B b\\\\\\n\"{\xc3\xa9\xe2\x82\xac\xf0\x9f\x92\xa9\x00\n# EOF",
	"a 1\nb -0.50 00\n# EOF",
	"A:9{} 10.01 -12.5\n# EOF\n",
	"c{x=\"\",_y1=\"\\\"\\\\\\n,}\xc3\xa9\xe2\x82\xac\xf0\x9f\x92\xa9\r\"} 007\n# EOF",
}

func TestP17_1Examples(t *testing.T) {
	held(t, "# EOF", -1)
	held(t, "a 1", 3)
	held(t, "# X", 2)
}

func TestP17_1Table(t *testing.T) {
	for s, want := range map[string]int{
		"": 0, "\n": 0, " ": 0, "#": 1, "# ": 2, "#  EOF": 2, "#\tEOF": 1, "# E": 3, "# EO": 4, "# EOf": 4, "# eof": 2, "# EOF ": 5, "# EOF\n\n": 6, "# EOF\na 1\n# EOF": 6, "# EOF# EOF": 5,
		"\n# EOF": 0, "a 1\n\n# EOF": 4, "a 1\n # EOF": 4, "a 1# EOF": 3, "a 1\r\n# EOF": 3, "a 1\n": 4, "a 1\n#": 5, "\xef\xbb\xbf# EOF": 0,
		"# TYPE": 6, "# TYPE ": 7, "# TYPE  a": 7, "# TYPE\ta": 6, "# TYP a": 5, "# TYPES": 6, "# type": 2, "# TYPE 9": 7, "# TYPE a": 8, "# TYPE a b": 10, "# TYPE a  b": 9, "# TYPE a B": 9, "# TYPE a bC": 10, "# TYPE a b1": 10, "# TYPE a b_": 10, "# TYPE a b \n": 10, "# TYPE a \n": 9, "# TYPE a\n": 8, "# TYPE a-b c": 8, "# TYPE \xc3\xa9": 7, "# TYPE a{} b": 8,
		"# UNIT": 6, "# UNIT a": 8, "# UNIT a ": 9, "# UNIT a\n": 8, "# UNIT a \n": 9, "# UNIT a -": 9, "# UNIT a s.": 10, "# UNIT a s s": 10, "# UNIT a 0:_Az\n": 15, "# UNITa": 6, "# UMIT": 3,
		"# HELP": 6, "# HELP a": 8, "# HELP a\n# EOF": 8, "# HELP a \n# EOF": -1, "# HELP a  \n# EOF": -1, "# HELP a # EOF": 14, "# HELP a \\": 10, "# HELP a \\t": 10, "# HELP a \\N": 10, "# HELP a \\\"": 10, "# HELP a \\\n": 10, "# HELP a \\ ": 10, "# HELP a \\\\\\n\n# EOF": -1, "# HELP a \"\n# EOF": -1, "# HELP a \r\x00\x7f\n# EOF": -1, "# HELP 1 b": 7, "# HELp": 5,
		"# HELP a \xff": 9, "# HELP a \xc3": 10, "# HELP a \xc3\n": 10, "# HELP a \xed\xa0\x80": 10, "# HELP a \xf0\x9f\x92": 12, "# HELP a \xf0\x9f\x92\\n": 12, "# HELP a \xc3\xa9": 11, "# HELP a \xc0\x80": 9, "# HELP a x\x80": 10,
		"a": 1, "9": 0, "-": 0, "a-": 1, "a.b 1": 1, "a{": 2, "a{ }": 2, "a {": 2, "a {} 1": 2, "a{}": 3, "a{}1": 3, "a{}{} 1": 3, "a{} 1\n# EOF": -1, "a{{": 2, "a{,}": 2, "a{}}": 3,
		"a{x": 3, "a{9": 2, "a{:": 2, "a{x:y": 3, "a{x-": 3, "a{x}": 3, "a{x =": 3, "a{x=": 4, "a{x=1": 4, "a{x='": 4, "a{x= \"": 4, "a{x=\"": 5, "a{x=\"\n": 5, "a{x=\"\"": 6, "a{x=\"\"\"": 6, "a{x=\"\" ": 6, "a{x=\"\",": 7, "a{x=\"\",}": 7, "a{x=\"\",,": 7, "a{x=\"\", ": 7, "a{x=\"\",9": 7, "a{x=\"\"y": 6, "a{x=\"\"}": 7, "a{x=\"\"} ": 8,
		"a{x=\"\\": 6, "a{x=\"\\r": 6, "a{x=\"\\\n": 6, "a{x=\"\\n": 7, "a{x=\"\\\"": 7, "a{x=\"\\\\\"": 8, "a{x=\"\\\"} 1\n# EOF": 10, "a{x=\"\x00\r\t'#,}= \"} 1\n# EOF": -1, "a{x=\"\xff": 5, "a{x=\"\xe2\x82": 7, "a{x=\"\xe2\x82\"": 7, "a{x=\"\xe2\x82\n": 7, "a{x=\"\xf4\x90": 6,
		"a ": 2, "a  1": 2, "a\t1": 1, "a -": 3, "a --1": 3, "a +1": 2, "a .5": 2, "a -.5": 3, "a 1.": 4, "a 1.-": 4, "a 1.5.": 5, "a 1..": 4, "a 1,5": 3, "a 1e5": 3, "a 0x1": 3, "a 1_0": 3, "a NaN": 2, "a Inf": 2, "a \xd9\xa1": 2, "a 00.00 -0\n# EOF": -1,
		"a 1 ": 4, "a 1  2": 4, "a 1 -": 5, "a 1 x": 4, "a 1 2": 5, "a 1 2 ": 5, "a 1 2.": 6, "a 1 2.0 ": 7, "a 1 \n": 4, "a 1 2 3\n# EOF": 5, "a 1 # x": 4, "a 1{}": 3,
	} {
		held(t, s, want)
	}
}

func TestP17_1Payloads(t *testing.T) {
	for _, s := range payloads {
		if !isPayload(s) {
			t.Errorf("%q is no payload", s)
		}
		held(t, s, -1)
	}
	for _, s := range payloads {
		for _, u := range payloads {
			lines := strings.TrimSuffix(strings.TrimSuffix(s, "\n"), "# EOF")
			held(t, lines+u, -1)
			held(t, s+u, badFrom(s+u, 0))
			held(t, lines+"\n"+u, badFrom(lines+"\n"+u, 0))
			held(t, lines+" "+u, badFrom(lines+" "+u, 0))
		}
	}
}

// Only the end is missing of a payload that was cut off, unless it ended there too.
func TestP17_1CutOff(t *testing.T) {
	for _, s := range payloads {
		for n := range len(s) {
			want := n
			if s[:n] == "# EOF" || strings.HasSuffix(s[:n], "\n# EOF") {
				want = -1
			}
			held(t, s[:n], want)
		}
	}
}

func TestP17_1EveryByteAtEveryPlace(t *testing.T) {
	for _, s := range payloads {
		for i := range len(s) + 1 {
			for c := range 256 {
				b := string([]byte{byte(c)})
				held(t, s[:i]+b, badFrom(s[:i]+b, i))
				if i < len(s) && c%3 == 0 {
					held(t, s[:i]+b+s[i+1:], badFrom(s[:i]+b+s[i+1:], i))
				}
				if c%3 == 1 {
					held(t, s[:i]+b+s[i:], badFrom(s[:i]+b+s[i:], i))
				}
			}
			if i < len(s) {
				held(t, s[:i]+s[i+1:], badFrom(s[:i]+s[i+1:], i))
			}
		}
	}
}

// each gives f all strings of some pieces, at most so many, behind a string.
func each(before string, pieces []string, most int, f func(s string)) {
	f(before)
	if most == 0 {
		return
	}
	for _, p := range pieces {
		each(before+p, pieces, most-1, f)
	}
}

// begun are beginnings of payloads that stand before each sort of part.
var begun = []string{
	"", "# ", "# TYPE a", "# TYPE a ", "# UNIT a ", "# HELP a ", "a", "a{", "a{x", "a{x=\"", "a{x=\"\"", "a ", "a 1", "a 1 2", "a 1\n", "# EOF",
}

func TestP17_1ShortStrings(t *testing.T) {
	pieces := []string{"a", "Z", "n", "9", "_", ":", "-", ".", " ", "\n", "\"", "\\", "{", "}", "=", ",", "#", "\xc3", "\xa9", "# EOF"}
	for _, before := range begun {
		each(before, pieces, 2, func(s string) { held(t, s, badFrom(s, len(before))) })
	}
	each("", []string{"# EOF", "# TYPE", "# HELP", " ", "a", "1", "\n", "{}"}, 5, func(s string) { held(t, s, badFrom(s, 0)) })
}

// In a value and in a help text a scalar ends where utf8 says so.
func TestP17_1Scalars(t *testing.T) {
	edges := []string{"a", "\x7f", "\x80", "\x8f", "\x90", "\x9f", "\xa0", "\xbf", "\xc1", "\xc2", "\xdf", "\xe0", "\xe1", "\xed", "\xef", "\xf0", "\xf3", "\xf4", "\xf5", "\xff"}
	for _, before := range []string{"# HELP a ", "a{x=\""} {
		each(before, edges, 2, func(s string) { held(t, s, badFrom(s, len(before))) })
		each(before+"\xf0\x90", edges, 2, func(s string) { held(t, s, badFrom(s, len(before))) })
		each(before+"\xf4", edges, 2, func(s string) { held(t, s, badFrom(s, len(before))) })
	}
}

// The grammar has no limits: they are those of reading.
func TestP17_1LongTexts(t *testing.T) {
	const n = 1 << 18
	lines, many := strings.Repeat("a 1\n", n), "a{"+strings.Repeat("x=\"\",", n)
	for _, part := range []struct{ s, end string }{
		{lines, "# EOF"},
		{many, "x=\"\"} 1\n# EOF"},
		{strings.Repeat("a", n), " 1\n# EOF"},
		{"a " + strings.Repeat("9", n), "\n# EOF"},
		{"a 1 0." + strings.Repeat("9", n), "\n# EOF"},
		{"a{x=\"" + strings.Repeat("\xf0\x9f\x92\xa9\\\"", n), "\"} 1\n# EOF"},
		{"# HELP a " + strings.Repeat("\xe2\x82\xac\\n\"", n), "\n# EOF\n"},
	} {
		if got := openword.Bad(part.s); got != len(part.s) {
			t.Errorf("Bad of a long text that is cut off: %d, want %d", got, len(part.s))
		}
		if got := openword.Bad(part.s + "\xff" + part.end); got != len(part.s) {
			t.Errorf("Bad of a long text with a wrong byte: %d, want %d", got, len(part.s))
		}
		if got := openword.Bad(part.s + part.end); got != -1 {
			t.Errorf("Bad of a long text: %d", got)
		}
	}
	if rows, ok := openword.Rows(lines + "# EOF"); !ok || len(rows) != n || rows[n-1].Off != 4*(n-1) {
		t.Errorf("Rows of many lines: %d, %v", len(rows), ok)
	}
	if rows, ok := openword.Rows(many + "x=\"\"} 1\n# EOF"); !ok || len(rows) != 1 || len(rows[0].Tags) != n+1 || rows[0].Tags[n].At != 2+5*n+3 {
		t.Errorf("Rows of many labels: %d, %v", len(rows), ok)
	}
}

// stood are the backslash sequences and what they stand for.
var stood = strings.NewReplacer(`\\`, `\`, `\"`, `"`, `\n`, "\n")

// rowOf is the chapter's row of a line of a payload, which begins at the index at.
func rowOf(line string, at int) api.Row {
	if m := remarks.FindStringSubmatchIndex(line); m != nil {
		for kind, k := range map[int]int{api.RowType: 2, api.RowUnit: 8, api.RowHelp: 14} {
			if m[k] >= 0 {
				return api.Row{Kind: kind, Name: line[m[k+2]:m[k+3]], Off: at + m[k+2], Text: stood.Replace(line[m[k+4]:m[k+5]]), At: at + m[k+4]}
			}
		}
	}
	m := sample.FindStringSubmatchIndex(line)
	row := api.Row{Name: line[m[2]:m[3]], Off: at, Text: line[m[6]:m[7]], At: at + m[6]}
	if m[8] >= 0 {
		row.Timed, row.Time, row.When = true, line[m[8]:m[9]], at+m[8]
	}
	if m[4] >= 0 {
		for _, l := range label.FindAllStringSubmatchIndex(line[m[4]:m[5]], -1) {
			from := at + m[4]
			tags := line[m[4]:m[5]]
			row.Tags = append(row.Tags, api.Tag{Name: tags[l[2]:l[3]], Value: stood.Replace(tags[l[4]:l[5]]), Off: from + l[2], At: from + l[4]})
		}
	}
	return row
}

// rowsOf is the chapter's Rows of a payload.
func rowsOf(s string) []api.Row {
	var rows []api.Row
	at := 0
	for line := range strings.Lines(strings.TrimSuffix(strings.TrimSuffix(s, "\n"), "# EOF")) {
		rows = append(rows, rowOf(strings.TrimSuffix(line, "\n"), at))
		at += len(line)
	}
	return rows
}

// plain is a row with nil for each list that is empty.
func plain(r api.Row) api.Row {
	r.Tags, r.Fields = append([]api.Tag(nil), r.Tags...), append([]api.Field(nil), r.Fields...)
	return r
}

func sameRows(a, b []api.Row) bool {
	return slices.EqualFunc(a, b, func(x, y api.Row) bool { return reflect.DeepEqual(plain(x), plain(y)) })
}

// wantRows tells whether s is a payload of those rows.
func wantRows(t *testing.T, s string, want []api.Row) {
	t.Helper()
	if got, ok := openword.Rows(s); !ok || !sameRows(got, want) {
		t.Errorf("Rows(%q): %+v, %v; want %+v", s, got, ok, want)
	}
}

func TestP17_2Table(t *testing.T) {
	for _, c := range []struct {
		s    string
		want api.Row
	}{
		{"# TYPE a:1 gauge", api.Row{Kind: api.RowType, Name: "a:1", Off: 7, Text: "gauge", At: 11}},
		{"# TYPE _ nosuchword", api.Row{Kind: api.RowType, Name: "_", Off: 7, Text: "nosuchword", At: 9}},
		{"# UNIT a_s s", api.Row{Kind: api.RowUnit, Name: "a_s", Off: 7, Text: "s", At: 11}},
		{"# UNIT :: 0:_Z", api.Row{Kind: api.RowUnit, Name: "::", Off: 7, Text: "0:_Z", At: 10}},
		{"# HELP a ", api.Row{Kind: api.RowHelp, Name: "a", Off: 7, At: 9}},
		{"# HELP ab  x\"y\\\\n\\n\\\\ ", api.Row{Kind: api.RowHelp, Name: "ab", Off: 7, Text: " x\"y\\n\n\\ ", At: 10}},
		{"a 1", api.Row{Name: "a", Text: "1", At: 2}},
		{"a{} -00.10", api.Row{Name: "a", Text: "-00.10", At: 4}},
		{"ab 1 2", api.Row{Name: "ab", Text: "1", At: 3, Timed: true, Time: "2", When: 5}},
		{"a{} 0 -0.0", api.Row{Name: "a", Text: "0", At: 4, Timed: true, Time: "-0.0", When: 6}},
		{"a{b=\"\"} 1", api.Row{Name: "a", Tags: []api.Tag{{Name: "b", Off: 2, At: 5}}, Text: "1", At: 8}},
		{"a{b=\"c\",b=\"c\"} 1 2", api.Row{Name: "a", Tags: []api.Tag{{Name: "b", Value: "c", Off: 2, At: 5}, {Name: "b", Value: "c", Off: 8, At: 11}}, Text: "1", At: 15, Timed: true, Time: "2", When: 17}},
		{"a{_9=\"\\\\n\\n\\\"\\\\\",z=\"{,=}#\xf0\x9f\x92\xa9\"} 1", api.Row{Name: "a", Tags: []api.Tag{{Name: "_9", Value: "\\n\n\"\\", Off: 2, At: 6}, {Name: "z", Value: "{,=}#\xf0\x9f\x92\xa9", Off: 17, At: 20}}, Text: "1", At: 32}},
	} {
		wantRows(t, c.s+"\n# EOF", []api.Row{c.want})
		wantRows(t, c.s+"\n# EOF\n", []api.Row{c.want})
	}
	wantRows(t, "# EOF", nil)
	wantRows(t, "# EOF\n", nil)
}

// parts are lines in which every part is there with each of its ends.
func parts() []string {
	var lines []string
	for _, name := range []string{"a", "_:Z09", ":"} {
		for _, word := range []string{"a", "untyped"} {
			lines = append(lines, "# TYPE "+name+" "+word, "# UNIT "+name+" "+word+"_:9")
		}
		for _, help := range []string{"", " ", "x # EOF", `\\\n\\n"`, "\xc3\xa9\r\x00{"} {
			lines = append(lines, "# HELP "+name+" "+help)
		}
		for _, tags := range []string{"", "{}", `{a=""}`, `{a="\"\\\n",_9=" 1 2} "}`, `{Z="` + "\xe2\x82\xac" + `",Z="",a="\\n"}`} {
			for _, rest := range []string{" 1", " -0.50", " 007 1", " 9.9 -00.00"} {
				lines = append(lines, name+tags+rest)
			}
		}
	}
	return lines
}

func TestP17_2EachLineAndPair(t *testing.T) {
	lines := parts()
	for _, x := range lines {
		wantRows(t, x+"\n# EOF", []api.Row{rowOf(x, 0)})
		for _, y := range lines {
			wantRows(t, x+"\n"+y+"\n# EOF\n", []api.Row{rowOf(x, 0), rowOf(y, len(x)+1)})
		}
	}
	all := strings.Join(lines, "\n") + "\n# EOF"
	wantRows(t, all, rowsOf(all))
}

// There are rows of payloads alone, whatever is done to one.
func TestP17_2ChangedPayloads(t *testing.T) {
	whole := 0
	for _, s := range payloads {
		for i := range len(s) {
			for _, b := range []string{"", "a", "9", "-", ".", " ", "\n", "\"", "\\", "{", "}", ",", "=", "#", "\xff", "\xc3\xa9", "\n# EOF"} {
				for _, u := range []string{s[:i] + b + s[i:], s[:i] + b + s[i+1:]} {
					rows, ok := openword.Rows(u)
					if !isPayload(u) {
						if ok || len(rows) > 0 {
							t.Errorf("Rows(%q): %+v, %v", u, rows, ok)
						}
						continue
					}
					whole++
					wantRows(t, u, rowsOf(u))
				}
			}
		}
	}
	if whole == 0 {
		t.Error("no payload was left whole")
	}
}

// Neither another row nor another call is touched by what is done with a list.
func TestP17_2NewMemory(t *testing.T) {
	s := "a{x=\"1\",y=\"2\",z=\"3\"} 1\nb{x=\"1\"} 2\nc 3\nd{w=\"\\n\"} 4\n# EOF"
	want := rowsOf(s)
	for i := range want {
		rows, _ := openword.Rows(s)
		again, _ := openword.Rows(s)
		tags := rows[i].Tags[:cap(rows[i].Tags)]
		for k := range tags {
			tags[k] = api.Tag{Name: "q", Value: "q", Off: -1, At: -1}
		}
		_ = append(rows[i].Fields, api.Field{Kind: -1})
		for k := range rows {
			if k != i && !reflect.DeepEqual(plain(rows[k]), plain(want[k])) {
				t.Errorf("row %d after row %d was changed: %+v", k, i, rows[k])
			}
		}
		rows = rows[:cap(rows)]
		clear(rows)
		if !sameRows(again, want) {
			t.Errorf("rows after those of another call were changed: %+v", again)
		}
		wantRows(t, s, want)
	}
}

func TestP17_3Table(t *testing.T) {
	for _, c := range []struct{ v, quote, help string }{
		{"", "", ""},
		{"a b", "a b", "a b"},
		{"\\", "\\\\", "\\\\"},
		{"\"", "\\\"", "\""},
		{"\n", "\\n", "\\n"},
		{"\\n", "\\\\n", "\\\\n"},
		{"\\\"", "\\\\\\\"", "\\\\\""},
		{"\n\n\\\\\"\"", "\\n\\n\\\\\\\\\\\"\\\"", "\\n\\n\\\\\\\\\"\""},
		{"\r\t\x00'{},=# n", "\r\t\x00'{},=# n", "\r\t\x00'{},=# n"},
		{"\xc3\xa9\n\xf0\x9f\x92\xa9", "\xc3\xa9\\n\xf0\x9f\x92\xa9", "\xc3\xa9\\n\xf0\x9f\x92\xa9"},
		{"\xff\\\xc3", "\xff\\\\\xc3", "\xff\\\\\xc3"},
	} {
		if got := openword.Quote(c.v); got != c.quote {
			t.Errorf("Quote(%q): %q, want %q", c.v, got, c.quote)
		}
		if got := openword.Help(c.v); got != c.help {
			t.Errorf("Help(%q): %q, want %q", c.v, got, c.help)
		}
	}
}

func TestP17_3EveryByte(t *testing.T) {
	quoted := strings.NewReplacer("\\", "\\\\", "\"", "\\\"", "\n", "\\n")
	helped := strings.NewReplacer("\\", "\\\\", "\n", "\\n")
	for c := range 256 {
		for d := range 256 {
			v := string([]byte{byte(c), byte(d)})
			if got := openword.Quote(v); got != quoted.Replace(v) {
				t.Errorf("Quote(%q): %q", v, got)
			}
			if got := openword.Help(v); got != helped.Replace(v) {
				t.Errorf("Help(%q): %q", v, got)
			}
		}
	}
}

func TestP17_3LongTexts(t *testing.T) {
	const n = 1 << 16
	v := strings.Repeat("\\a\"\n\xff", n)
	if got := openword.Quote(v); got != strings.Repeat("\\\\a\\\"\\n\xff", n) {
		t.Errorf("Quote of a long text: %d bytes", len(got))
	}
	if got := openword.Help(v); got != strings.Repeat("\\\\a\"\\n\xff", n) {
		t.Errorf("Help of a long text: %d bytes", len(got))
	}
}

// What is written in a payload so is what Rows finds there.
func TestP17_3ThereAndBack(t *testing.T) {
	each("", []string{"\\", "\"", "\n", "n", "a", " ", "}", "\x00", "\xc3\xa9"}, 4, func(v string) {
		s := "# HELP a " + openword.Help(v) + "\na{x=\"" + openword.Quote(v) + "\",y=\"\"} 1\n# EOF"
		rows, ok := openword.Rows(s)
		if !ok || len(rows) != 2 || rows[0].Text != v || len(rows[1].Tags) != 2 || rows[1].Tags[0].Value != v {
			t.Errorf("%q back: %+v, %v", v, rows, ok)
		}
	})
}

// Whatever Bad leaves as good can be completed, and one byte more can't: so the bytes
// up to that one alone tell it, whatever follows.
func TestP17_4TheGoodPartIsTheLongest(t *testing.T) {
	pieces := []string{"a", "Z", "9", "_", ":", "-", ".", " ", "\n", "\"", "\\", "{", "}", "=", ",", "#", "\xe2\x82", "\xac"}
	for _, before := range begun {
		each(before, pieces, 2, func(s string) {
			n := openword.Bad(s)
			if n < 0 {
				return
			}
			if n > len(s) || !isViable(s[:n]) {
				t.Fatalf("Bad(%q): %d, but no payload begins so", s, n)
			}
			if n == len(s) {
				return
			}
			if isViable(s[:n+1]) {
				t.Fatalf("Bad(%q): %d, but a payload begins with a byte more", s, n)
			}
			for _, rest := range []string{"", "a", "\"", "\n# EOF", "\x80", "} 1\n# EOF"} {
				held(t, s[:n+1]+rest, n)
			}
		})
	}
}
