package word_test

import (
	"fmt"
	"reflect"
	"regexp"
	"slices"
	"strings"
	"testing"

	"limewash/api"
	"limewash/word"
)

var (
	onward = regexp.MustCompile(`\\\r*\z`)
	blanks = regexp.MustCompile(`[ \t\r]+`)
)

// plainWords is Words as the document says it, by patterns.
func plainWords(s string) []string {
	var words []string
	for _, w := range blanks.Split(strings.SplitN(s, "#", 2)[0], -1) {
		if w != "" {
			words = append(words, w)
		}
	}
	return words
}

// plainSplit is Split as the document says it: from the last part on, each that goes on takes what stands behind it.
func plainSplit(b string) []api.Line {
	parts := strings.Split(b, "\n")
	if parts[len(parts)-1] == "" {
		parts = parts[:len(parts)-1]
	}
	var l []api.Line
	behind, none := "", true
	for i := len(parts) - 1; i >= 0; i-- {
		line := parts[i]
		if at := onward.FindStringIndex(line); at != nil {
			line = line[:at[0]]
			if !none {
				line += behind
				l = l[:len(l)-1]
			}
		}
		l = append(l, api.Line{No: i + 1, Words: []string{line}})
		behind, none = line, false
	}
	slices.Reverse(l)
	var with []api.Line
	for _, line := range l {
		if words := plainWords(line.Words[0]); len(words) > 0 {
			with = append(with, api.Line{No: line.No, Words: words})
		}
	}
	return with
}

func sameLines(a, b []api.Line) bool {
	return slices.EqualFunc(a, b, func(x, y api.Line) bool {
		return x.No == y.No && slices.Equal(x.Words, y.Words)
	})
}

func wordsOf(l []api.Line) [][]string {
	var all [][]string
	for _, line := range l {
		all = append(all, line.Words)
	}
	return all
}

// clip tells x in no more than a line: some texts are long.
func clip(x any) string {
	s := fmt.Sprintf("%q", x)
	return s[:min(len(s), 200)]
}

func checkSplit(t *testing.T, b string) {
	t.Helper()
	l, e := word.Split(b)
	if want := plainSplit(b); e != api.OK || !sameLines(l, want) {
		t.Fatalf("Split(%s): %s, %d; want %s", clip(b), clip(l), e, clip(want))
	}
	checkLines(t, b, l)
}

// P6.3: of what kind words are, that numbers rise, and that joining and splitting again gives the same words.
func checkLines(t *testing.T, b string, l []api.Line) {
	t.Helper()
	last, ends := 0, false
	for _, line := range l {
		if line.No <= last || len(line.Words) == 0 {
			t.Fatalf("Split(%s): line %s behind %d", clip(b), clip(line), last)
		}
		last = line.No
		for _, w := range line.Words {
			if w == "" || strings.ContainsAny(w, " \t\r\n#") {
				t.Fatalf("Split(%s): word %s", clip(b), clip(w))
			}
		}
		ends = ends || strings.HasSuffix(line.Words[len(line.Words)-1], `\`)
	}
	joined := word.Join(l)
	if ends || len(joined) > api.MaxText {
		return
	}
	again, e := word.Split(joined)
	if e != api.OK || !reflect.DeepEqual(wordsOf(again), wordsOf(l)) {
		t.Fatalf("Split(%s), joined and split: %s, %d; want %s", clip(b), clip(again), e, clip(l))
	}
}

// texts calls f for each text of n bytes out of letters.
func texts(letters string, n int, f func(string)) {
	if n == 0 {
		f("")
		return
	}
	texts(letters, n-1, func(s string) {
		for i := range len(letters) {
			f(s + letters[i:i+1])
		}
	})
}

// rolls gives numbers that look like chance, the same at each run.
func rolls(seed uint64) func(n int) int {
	return func(n int) int {
		seed = seed*6364136223846793005 + 1442695040888963407
		return int((seed >> 33) % uint64(n))
	}
}

func rolled(roll func(int) int, letters string, n int) string {
	b := make([]byte, n)
	for i := range b {
		b[i] = letters[roll(len(letters))]
	}
	return string(b)
}

// P6.1: what stands ahead of the first remark.
func TestBare(t *testing.T) {
	for _, x := range []struct{ s, want string }{
		{"", ""}, {"#", ""}, {"##", ""}, {"#a", ""}, {"a#", "a"}, {"a#b#c", "a"},
		{" a b ", " a b "}, {"a \t# b", "a \t"}, {`a\#b`, `a\`}, {`"#"`, `"`},
		{"a\nb#c\nd", "a\nb"}, {"\xff\x00#\xff", "\xff\x00"}, {"a\r", "a\r"}, {"é#", "é"}, {"＃a", "＃a"},
	} {
		if s := word.Bare(x.s); s != x.want {
			t.Errorf("Bare(%q): %q; want %q", x.s, s, x.want)
		}
	}
}

// P6.1: what stands between blanks; what looks like one elsewhere is no blank.
func TestWords(t *testing.T) {
	for _, x := range []struct {
		s    string
		want []string
	}{
		{"", nil}, {" ", nil}, {" \t\r ", nil}, {"#a b", nil}, {" # a", nil},
		{"a", []string{"a"}}, {" a ", []string{"a"}}, {"a b", []string{"a", "b"}},
		{"a\tb\rc  d", []string{"a", "b", "c", "d"}}, {"b a b", []string{"b", "a", "b"}},
		{"ab#c d", []string{"ab"}}, {"a b # c", []string{"a", "b"}},
		{`a\ \ b\`, []string{`a\`, `\`, `b\`}}, {"a\nb c", []string{"a\nb", "c"}},
		{"a\vb\fc\u00a0d\u0085e\u2003f\x00g", []string{"a\vb\fc\u00a0d\u0085e\u2003f\x00g"}},
		{"\xa0 \x85 \xff\xfe", []string{"\xa0", "\x85", "\xff\xfe"}},
	} {
		if w := word.Words(x.s); !slices.Equal(w, x.want) {
			t.Errorf("Words(%q): %q; want %q", x.s, w, x.want)
		}
	}
	texts(" \t\r\n#\\a\xa0", 6, func(s string) {
		if w, want := word.Words(s), plainWords(s); !slices.Equal(w, want) {
			t.Fatalf("Words(%q): %q; want %q", s, w, want)
		}
	})
}

// P6.1: each single byte is a blank, begins a remark, or is of a word.
func TestBytes(t *testing.T) {
	for b := range 256 {
		want := []string{"x" + string([]byte{byte(b)}) + "y"}
		switch b {
		case 32, 9, 13:
			want = []string{"x", "y"}
		case '#':
			want = []string{"x"}
		}
		if w := word.Words("x" + string([]byte{byte(b)}) + "y"); !slices.Equal(w, want) {
			t.Errorf("Words, byte %d: %q; want %q", b, w, want)
		}
	}
}

// P6.2: lines, with their first parts' numbers.
func TestSplit(t *testing.T) {
	for _, x := range []struct {
		b    string
		want []api.Line
	}{
		{"", nil}, {"\n", nil}, {"\n\n \n#\n", nil}, {`\`, nil}, {"\\\n\\\n", nil},
		{"v 1 2\\\n3 # x\n\nf 1", []api.Line{{No: 1, Words: []string{"v", "1", "23"}}, {No: 4, Words: []string{"f", "1"}}}},
		{"a\nb\n", []api.Line{{No: 1, Words: []string{"a"}}, {No: 2, Words: []string{"b"}}}},
		{"a\nb", []api.Line{{No: 1, Words: []string{"a"}}, {No: 2, Words: []string{"b"}}}},
		{"\n\na", []api.Line{{No: 3, Words: []string{"a"}}}},
		{"a\rb\nc", []api.Line{{No: 1, Words: []string{"a", "b"}}, {No: 2, Words: []string{"c"}}}},
		{"a\r\nb\r\n", []api.Line{{No: 1, Words: []string{"a"}}, {No: 2, Words: []string{"b"}}}},
		// What goes on, and what only seems to.
		{"a\\", []api.Line{{No: 1, Words: []string{"a"}}}},
		{"a\\\n", []api.Line{{No: 1, Words: []string{"a"}}}},
		{"a\\\nb\nc", []api.Line{{No: 1, Words: []string{"ab"}}, {No: 3, Words: []string{"c"}}}},
		{"a \\\n b\\\nc", []api.Line{{No: 1, Words: []string{"a", "bc"}}}},
		{"a\\\r\r\nb", []api.Line{{No: 1, Words: []string{"ab"}}}},
		{"a\r\\\r\nb", []api.Line{{No: 1, Words: []string{"a", "b"}}}},
		{"a\\ \nb", []api.Line{{No: 1, Words: []string{`a\`}}, {No: 2, Words: []string{"b"}}}},
		{"a\\\t\nb", []api.Line{{No: 1, Words: []string{`a\`}}, {No: 2, Words: []string{"b"}}}},
		{"\\a\nb", []api.Line{{No: 1, Words: []string{`\a`}}, {No: 2, Words: []string{"b"}}}},
		{"a\\\n\\\n\\\nb\nc", []api.Line{{No: 1, Words: []string{"ab"}}, {No: 5, Words: []string{"c"}}}},
		{"\\\n\\\na\nb", []api.Line{{No: 1, Words: []string{"a"}}, {No: 4, Words: []string{"b"}}}},
		// A next part goes on by itself alone: what stands ahead of it doesn't make it.
		{"a\\\\\n\nb", []api.Line{{No: 1, Words: []string{`a\`}}, {No: 3, Words: []string{"b"}}}},
		{"a\\\\\n\r\nb", []api.Line{{No: 1, Words: []string{`a\`}}, {No: 3, Words: []string{"b"}}}},
		{"a\\\n\nb", []api.Line{{No: 1, Words: []string{"a"}}, {No: 3, Words: []string{"b"}}}},
		// A remark goes on with its line.
		{"# a\\\nb\nc", []api.Line{{No: 3, Words: []string{"c"}}}},
		{"a # b\\\nc d\ne", []api.Line{{No: 1, Words: []string{"a"}}, {No: 3, Words: []string{"e"}}}},
		{"a\\\n#b\\\nc\nd", []api.Line{{No: 1, Words: []string{"a"}}, {No: 4, Words: []string{"d"}}}},
		{"\xff\xfe\\\n\xa0 \x00", []api.Line{{No: 1, Words: []string{"\xff\xfe\xa0", "\x00"}}}},
	} {
		if l, e := word.Split(x.b); e != api.OK || !sameLines(l, x.want) {
			t.Errorf("Split(%q): %v, %d; want %v", x.b, l, e, x.want)
		}
		checkSplit(t, x.b)
	}
}

// P6.2, P6.3: all short texts of the bytes that matter.
func TestSplitAll(t *testing.T) {
	for n := range 7 {
		texts("\\\n\r #ab", n, func(s string) { checkSplit(t, s) })
	}
	for n := range 10 {
		texts("\\\n\ra", n, func(s string) { checkSplit(t, s) })
	}
}

// P6.2, P6.3: longer texts.
func TestSplitLong(t *testing.T) {
	roll := rolls(6)
	for _, letters := range []string{"\\\n", "\\\na", "\\\\\n\r\ra b\t#c", "ab \n", "ab \\\n\xff"} {
		for range 200 {
			checkSplit(t, rolled(roll, letters, roll(400)))
		}
	}
}

// P6.2: too many bytes are refused, whatever they are; as many as may be are not.
func TestSplitLimit(t *testing.T) {
	for _, unit := range []string{"a", "\n", " ", "#", `\`, "a\\\n", "a ", "a\n", "\xff"} {
		b := strings.Repeat(unit, api.MaxText)[:api.MaxText]
		checkSplit(t, b)
		for _, more := range []string{"a", "\n", " ", b} {
			if l, e := word.Split(b + more); l != nil || e != api.ErrLimit {
				t.Errorf("Split of %d bytes, %q: %d lines, %d", len(b+more), unit, len(l), e)
			}
		}
	}
}

// P6.2: a line each, also where there is no word.
func TestJoin(t *testing.T) {
	for _, x := range []struct {
		l    []api.Line
		want string
	}{
		{nil, ""}, {[]api.Line{}, ""}, {[]api.Line{{}}, "\n"}, {[]api.Line{{No: 7}, {}}, "\n\n"},
		{[]api.Line{{No: 3, Words: []string{"a"}}}, "a\n"},
		{[]api.Line{{Words: []string{"a", "b", "c"}}, {}, {Words: []string{"d"}}}, "a b c\n\nd\n"},
		{[]api.Line{{Words: []string{"", ""}}, {Words: []string{"#", "\n"}}}, " \n# \n\n"},
		{[]api.Line{{Words: []string{`a\`}}, {No: -1, Words: []string{"\xff"}}}, "a\\\n\xff\n"},
	} {
		if s := word.Join(x.l); s != x.want {
			t.Errorf("Join(%v): %q; want %q", x.l, s, x.want)
		}
	}
}

// P6.3: blanks more between two words turn nothing, and what is joined is split into the same words.
func TestBlanksMore(t *testing.T) {
	roll := rolls(63)
	for range 2000 {
		l := make([]api.Line, roll(5))
		var wide strings.Builder
		for i := range l {
			for range 1 + roll(4) {
				w := rolled(roll, "ab1/-.\xff\\", roll(5)) + "z"
				l[i].Words = append(l[i].Words, w)
				wide.WriteString(w + rolled(roll, " \t\r", 1+roll(4)))
			}
			l[i].No = i + 1
			wide.WriteByte('\n')
		}
		for _, b := range []string{word.Join(l), wide.String()} {
			if got, e := word.Split(b); e != api.OK || !sameLines(got, l) {
				t.Fatalf("Split(%q): %v, %d; want %v", b, got, e, l)
			}
		}
	}
}

// R2: what is given stays as it is, and no two lists of an answer share memory.
func TestMemory(t *testing.T) {
	l := []api.Line{{No: 1, Words: []string{"a", "b"}}, {No: 2, Words: []string{"c"}}}
	word.Join(l)
	if !sameLines(l, []api.Line{{No: 1, Words: []string{"a", "b"}}, {No: 2, Words: []string{"c"}}}) {
		t.Errorf("Join changes its lines: %v", l)
	}
	const b = "a b c\nd\ne f"
	first, _ := word.Split(b)
	for i := range first {
		_ = append(first[i].Words, "x")
		for k := range first[i].Words {
			first[i].Words[k] = "y"
		}
		for _, line := range first[i+1:] {
			if slices.Contains(line.Words, "x") || slices.Contains(line.Words, "y") {
				t.Errorf("lines share words: %v", first)
			}
		}
	}
	checkSplit(t, b)
	w := word.Words("a b")
	w[0] = "z"
	if again := word.Words("a b"); !slices.Equal(again, []string{"a", "b"}) {
		t.Errorf("Words are kept: %q", again)
	}
}
