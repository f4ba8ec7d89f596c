package scan_test

import (
	"math"
	"math/big"
	"regexp"
	"slices"
	"strconv"
	"strings"
	"testing"

	"limewash/api"
	"limewash/scan"
)

const most = api.MaxPart

var (
	decimals = regexp.MustCompile(`\A[+-]?([0-9]+(\.[0-9]*)?|\.[0-9]+)\z`)
	wholes   = regexp.MustCompile(`\A(0|-?[1-9][0-9]{0,6})\z`)
)

// plain is Parse as the document says it, by great fractions.
func plain(s string) (int, api.Errno) {
	if len(s) > 20 || !decimals.MatchString(s) {
		return 0, api.ErrForm
	}
	digits := strings.TrimLeft(s, "+-")
	front, back, _ := strings.Cut(digits, ".")
	n, _ := new(big.Int).SetString("0"+front+back, 10)
	if s[0] == '-' {
		n.Neg(n)
	}
	n.Mul(n, big.NewInt(256))
	scale := new(big.Int).Exp(big.NewInt(10), big.NewInt(int64(len(back))), nil)
	n.Div(n, scale) // Euclid's: rounded down, as scale is above 0
	if n.CmpAbs(big.NewInt(most)) > 0 {
		return 0, api.ErrRange
	}
	return int(n.Int64()), api.OK
}

func checkParse(t *testing.T, s string) {
	t.Helper()
	want, wantE := plain(s)
	if n, e := scan.Parse(s); n != want || e != wantE {
		t.Errorf("Parse(%q): %d, %d; want %d, %d", s, n, e, want, wantE)
	}
}

// rolls gives numbers that look like chance, the same at each run.
func rolls(seed uint64) func(n int) int {
	return func(n int) int {
		seed = seed*6364136223846793005 + 1442695040888963407
		return int((seed >> 33) % uint64(n))
	}
}

// P5.1: decimals, their steps rounded down.
func TestParse(t *testing.T) {
	for s, want := range map[string]int{
		"1.5": 384, "-0.001": -1, "+.5": 128, "3.": 768, // the document's
		"0": 0, "+0": 0, "-0": 0, "-0.": 0, "-.0": 0, "0.0": 0, ".0": 0, "00": 0,
		"1": 256, "+1": 256, "-1": -256, "007": 1792, "-007.50": -1920, "-3.": -768, "-.5": -128,
		"0.00390625": 1, "0.00390624": 0, "0.00390626": 1, "0.0078124999": 1, "0.0078125": 2,
		"-0.00390625": -1, "-0.00390624": -1, "-0.00390626": -2, "-0.0078125": -2, "-0.0078125000000001": -3,
		"-.000000000000000001": -1, ".9999999999999999999": 255, "-.999999999999999999": -256,
	} {
		if n, e := scan.Parse(s); n != want || e != api.OK {
			t.Errorf("Parse(%q): %d, %d; want %d", s, n, e, want)
		}
	}
}

// P5.1: the greatest and the least steps, and those beyond, up to 20 digits.
func TestParseRange(t *testing.T) {
	for s, want := range map[string]int{"4096": most, "+4096.": most, "4096.00390624": most, "4096.00390624999999": most, "00000000000000004096": most, "0000000000004096.003": most, "4095.999999999999999": most - 1, "-4096": -most, "-4096.00000000000000": -most, "-0000000000000004096": -most, "-4095.99609375": 1 - most, "-4095.99609376": -most} {
		if n, e := scan.Parse(s); n != want || e != api.OK {
			t.Errorf("Parse(%q): %d, %d; want %d", s, n, e, want)
		}
	}
	for _, s := range []string{"4096.00390625", "4097", "-4096.00390625", "-4096.0001", "-4096.00000000000001", "-4097", "72057594037927936", "72057594037927937", "18446744073709551616", "18446744073709551617", "36028797018963968", "99999999999999999999", "+9999999999999999999", "-9999999999999999999", "9999999999999999999.", "999999999999999999.9", "-999999999999999999.", "1048576", "1048577"} {
		if n, e := scan.Parse(s); n != 0 || e != api.ErrRange {
			t.Errorf("Parse(%q): %d, %d; want ErrRange", s, n, e)
		}
	}
}

// P5.1: texts that are no decimals, and the 20 bytes of one.
func TestParseForm(t *testing.T) {
	for _, s := range []string{
		"", ".", "+", "-", "+.", "-.", "+-1", "-+1", "--1", "1-", "1+", "1-2", ".-1", "1.2.3", "..1", "1..", "1e3", "0x1", "1_0", "1,5", "a", "1a", "a1",
		" 1", "1 ", "1\n", "\t1", "1\x00", "\x00", "/", ":", "1/", "1:", "Inf", "NaN",
		"1\u0661", "\u0661", "\uff11", "\u22121", "\ufffd", "1\ufffd", "\xff", "1\xff", "\xb1", "1\xb1.5", "\ufeff1",
		strings.Repeat("0", 21), "9999999999999999999999", strings.Repeat("1", 100), strings.Repeat("0", 20) + ".", "0.0000000000000000000", "+0.000000000000000000", strings.Repeat("x", 1<<16),
	} {
		if n, e := scan.Parse(s); n != 0 || e != api.ErrForm {
			t.Errorf("Parse(%q): %d, %d; want ErrForm", s, n, e)
		}
	}
	for s, want := range map[string]int{strings.Repeat("0", 20): 0, "-" + strings.Repeat("0", 18) + "1": -256, "0." + strings.Repeat("0", 18): 0, "+." + strings.Repeat("0", 18): 0, "." + strings.Repeat("9", 19): 255, "000000000000000001.5": 384, strings.Repeat("0", 19) + ".": 0} {
		if n, e := scan.Parse(s); n != want || e != api.OK || len(s) != 20 {
			t.Errorf("Parse(%q), of %d bytes: %d, %d; want %d", s, len(s), n, e, want)
		}
	}
}

// P5.1: every text of up to four of some bytes, and many longer ones, are held against the plain way.
func TestParsePlain(t *testing.T) {
	const bytes = "+-.0159x\xd9"
	short := []string{""}
	for range 4 {
		for _, s := range short {
			for i := range len(bytes) {
				short = append(short, s+bytes[i:i+1])
			}
		}
		slices.Sort(short)
		short = slices.Compact(short)
	}
	for _, s := range short {
		checkParse(t, s)
	}
	roll := rolls(5)
	for range 200000 {
		checkParse(t, rolled(roll))
	}
}

// rolled gives a text that is a decimal, or nearly one, of up to 22 bytes.
func rolled(roll func(int) int) string {
	s := []string{"", "", "+", "-", "-"}[roll(5)]
	for range roll(6) {
		s += strconv.Itoa(roll(10))
	}
	if roll(8) > 0 {
		s += "."
	}
	for range roll(17) {
		s += strconv.Itoa([]int{0, 0, 3, 9, 0, 6, 2, 5}[roll(8)])
	}
	return s
}

// P5.1: each text of a row, in order; the first error, and nothing beside it.
func TestRow(t *testing.T) {
	if l, e := scan.Row(); len(l) != 0 || e != api.OK {
		t.Errorf("Row(): %v, %d", l, e)
	}
	if l, e := scan.Row("1", "-1", ".5", "-0.001", "1"); e != api.OK || !slices.Equal(l, []int{256, -256, 128, -1, 256}) {
		t.Errorf("Row: %v, %d", l, e)
	}
	for _, c := range []struct {
		l    []string
		want api.Errno
	}{
		{[]string{"x"}, api.ErrForm},
		{[]string{"4097"}, api.ErrRange},
		{[]string{"1", "9999", "x"}, api.ErrRange},
		{[]string{"1", "x", "9999"}, api.ErrForm},
		{[]string{"1", "2", ""}, api.ErrForm},
		{[]string{"1", "2", "3", "-4096.1"}, api.ErrRange},
	} {
		if l, e := scan.Row(c.l...); len(l) != 0 || e != c.want {
			t.Errorf("Row(%q): %v, %d; want %d", c.l, l, e, c.want)
		}
	}
}

// P5.1, R2: a row's texts stay as they are, and each answer is its own.
func TestRowMemory(t *testing.T) {
	texts := []string{"1", "2", "-3."}
	a, _ := scan.Row(texts...)
	b, _ := scan.Row(texts...)
	a[0], a[2] = 9, 9
	a = append(a, 9)
	if !slices.Equal(b, []int{256, 512, -768}) || !slices.Equal(texts, []string{"1", "2", "-3."}) || len(a) != 4 {
		t.Errorf("%v, %v, %q", a, b, texts)
	}
}

// P5.2: steps told as they are.
func TestPrint(t *testing.T) {
	for n, want := range map[int]string{
		1: "0.00390625", -384: "-1.5", // the document's
		0: "0", -1: "-0.00390625", 255: "0.99609375", 128: "0.5", -128: "-0.5", 64: "0.25", 8: "0.03125", 256: "1", -256: "-1", 257: "1.00390625", 2560: "10", 25600: "100", 256000: "1000", 25728: "100.5",
		most: "4096", -most: "-4096", most - 1: "4095.99609375", 1 - most: "-4095.99609375",
	} {
		if s, e := scan.Print(n); s != want || e != api.OK {
			t.Errorf("Print(%d): %q, %d; want %q", n, s, e, want)
		}
	}
	for _, n := range []int{most + 1, -most - 1, 2 * most, 1 << 32, -1 << 32, 1<<32 + 1, math.MaxInt, math.MinInt, math.MinInt + 1} {
		if s, e := scan.Print(n); s != "" || e != api.ErrRange {
			t.Errorf("Print(%d): %q, %d; want ErrRange", n, s, e)
		}
	}
}

// P5.2, P5.4: every one that may be printed has the short form, and is parsed as itself.
func TestPrintAll(t *testing.T) {
	for n := -most; n <= most; n++ {
		s, e := scan.Print(n)
		if e != api.OK || s != strconv.FormatFloat(float64(n)/256, 'f', -1, 64) {
			t.Fatalf("Print(%d): %q, %d", n, s, e)
		}
		if m, e := scan.Parse(s); m != n || e != api.OK {
			t.Fatalf("Parse(%q): %d, %d; want %d", s, m, e, n)
		}
	}
}

// P5.3: whole numbers told the one way.
func TestWhole(t *testing.T) {
	for s, want := range map[string]int{"0": 0, "7": 7, "-7": -7, "10": 10, "-12": -12, "100": 100, "4097": 4097, "1048577": 1048577, "9999999": 9999999, "-9999999": -9999999, "1000000": 1000000, "-1000000": -1000000} {
		if n, e := scan.Whole(s); n != want || e != api.OK {
			t.Errorf("Whole(%q): %d, %d; want %d", s, n, e, want)
		}
	}
	for _, s := range []string{"", "-", "-0", "00", "-00", "007", "-07", "+1", "+0", "+", "1.", ".1", "1.0", "--1", "-+1", "1-", "10000000", "-10000000", "0000000", "00000001", "99999999999999999999", strings.Repeat("1", 1<<16), "x", "1x", "x1", " 1", "1 ", "1\n", "/", ":", "\x00", "1e3", "\u0661", "1\u0661", "\uff11", "\xff", "1\xff", "-\xb1", "\ufffd", "\u22121"} {
		if n, e := scan.Whole(s); n != 0 || e != api.ErrForm {
			t.Errorf("Whole(%q): %d, %d; want ErrForm", s, n, e)
		}
	}
}

// P5.3: many texts are held against the form, and what is told the short way comes back.
func TestWholePlain(t *testing.T) {
	roll := rolls(7)
	for range 200000 {
		s := ""
		for range roll(10) {
			s += string("--00123456789x+."[roll(16)])
		}
		want, wantE := 0, api.ErrForm
		if wholes.MatchString(s) {
			want, _ = strconv.Atoi(s)
			wantE = api.OK
		}
		if n, e := scan.Whole(s); n != want || e != wantE {
			t.Fatalf("Whole(%q): %d, %d; want %d, %d", s, n, e, want, wantE)
		}
	}
	for n := -9999999; n <= 9999999; n += 7 {
		if m, e := scan.Whole(strconv.Itoa(n)); m != n || e != api.OK {
			t.Fatalf("Whole(%d): %d, %d", n, m, e)
		}
	}
}

// P5.4: a digit more behind the point makes no less of what is not below 0; noughts turn nothing.
func TestMoreDigits(t *testing.T) {
	roll := rolls(11)
	for range 50000 {
		s := rolled(roll)
		if !strings.Contains(s, ".") || len(s) > 19 {
			continue
		}
		n, e := scan.Parse(s)
		if e == api.ErrForm {
			continue
		}
		if m, f := scan.Parse(s + "0"); m != n || f != e {
			t.Fatalf("Parse(%q): %d, %d; with a nought %d, %d", s, n, e, m, f)
		}
		if e != api.OK || s[0] == '-' {
			continue
		}
		for digit := range 10 {
			more := s + strconv.Itoa(digit)
			if m, f := scan.Parse(more); f == api.OK && m < n || f != api.OK && f != api.ErrRange {
				t.Fatalf("Parse(%q): %d, %d; of %q: %d", more, m, f, s, n)
			}
		}
	}
}
