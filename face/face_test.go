package face_test

import (
	"math"
	"regexp"
	"slices"
	"strconv"
	"strings"
	"testing"

	"limewash/api"
	"limewash/face"
)

const greatest = 9999998

// whole is a whole number's pattern.
const whole = `(0|-?[1-9][0-9]{0,6})`

var corners = regexp.MustCompile(`\A` + whole + `(?:/` + whole + `|//` + whole + `|/` + whole + `/` + whole + `)?\z`)

// plainPlace is Place as the document says it, of a text that is a whole number, by going through all places.
func plainPlace(s string, many int) (int, api.Errno) {
	for place := range max(many, 0) {
		if s == strconv.Itoa(place+1) || s == strconv.Itoa(place-many) {
			return place, api.OK
		}
	}
	return 0, api.ErrIndex
}

// plainCorner is Corner as the document says it, by a pattern.
func plainCorner(s string, v, t, n int) (api.Corner, api.Errno) {
	m := corners.FindStringSubmatch(s)
	if m == nil {
		return api.Corner{}, api.ErrForm
	}
	c := api.Corner{V: -1, T: -1, N: -1}
	for _, x := range []struct {
		text string
		many int
		to   *int
	}{{m[1], v, &c.V}, {m[2] + m[4], t, &c.T}, {m[3] + m[5], n, &c.N}} {
		if x.text == "" {
			continue
		}
		place, e := plainPlace(x.text, x.many)
		if e != api.OK {
			return api.Corner{}, e
		}
		*x.to = place
	}
	return c, api.OK
}

// plainFace is Face as the document says it, by counting.
func plainFace(v, t, n int, l []string) ([][3]api.Corner, api.Errno) {
	if len(l) < 3 {
		return nil, api.ErrForm
	}
	var row []api.Corner
	places, normals := 0, 0
	for _, s := range l {
		c, e := plainCorner(s, v, t, n)
		if e != api.OK {
			return nil, e
		}
		row = append(row, c)
		if c.T >= 0 {
			places++
		}
		if c.N >= 0 {
			normals++
		}
	}
	if places > 0 && places < len(l) || normals > 0 && normals < len(l) {
		return nil, api.ErrForm
	}
	fan := make([][3]api.Corner, len(l)-2)
	for i := range fan {
		fan[i] = [3]api.Corner{row[0], row[i+1], row[i+2]}
	}
	return fan, api.OK
}

// texts calls f for each text of n bytes out of letters.
func texts(letters string, n int, f func(string)) {
	if n == 0 {
		f("")
		return
	}
	texts(letters, n-1, func(s string) {
		for i := range len(letters) {
			f(s + letters[i:i+1])
		}
	})
}

// rolls gives numbers that look like chance, the same at each run.
func rolls(seed uint64) func(n int) int {
	return func(n int) int {
		seed = seed*6364136223846793005 + 1442695040888963407
		return int((seed >> 33) % uint64(n))
	}
}

func checkCorner(t *testing.T, s string, v, p, n int) {
	t.Helper()
	want, wantE := plainCorner(s, v, p, n)
	if c, e := face.Corner(s, v, p, n); c != want || e != wantE {
		t.Fatalf("Corner(%q, %d, %d, %d): %+v, %d; want %+v, %d", s, v, p, n, c, e, want, wantE)
	}
}

func checkFace(t *testing.T, v, p, n int, l []string) {
	t.Helper()
	given := slices.Clone(l)
	want, wantE := plainFace(v, p, n, l)
	got, e := face.Face(v, p, n, l...)
	if e != wantE || !slices.Equal(got, want) || !slices.Equal(l, given) {
		t.Fatalf("Face(%d, %d, %d, %q): %v, %d; want %v, %d", v, p, n, given, got, e, want, wantE)
	}
}

// P7.1: places told from the first one on, and from the last one back.
func TestPlace(t *testing.T) {
	for _, x := range []struct {
		s          string
		many, want int
	}{
		{"1", 1, 0}, {"-1", 1, 0}, {"1", 4, 0}, {"4", 4, 3}, {"-1", 4, 3}, {"-4", 4, 0}, {"3", 4, 2}, {"-2", 4, 2},
		{"9999999", 9999999, greatest}, {"-9999999", 9999999, 0}, {"-9999999", 10000000, 1}, {"-1", 10000000, 9999999},
		{"1", math.MaxInt, 0}, {"9999999", math.MaxInt, greatest}, {"-1", math.MaxInt, math.MaxInt - 1}, {"-9999999", math.MaxInt, math.MaxInt - 9999999},
	} {
		if n, e := face.Place(x.s, x.many); n != x.want || e != api.OK {
			t.Errorf("Place(%q, %d): %d, %d; want %d", x.s, x.many, n, e, x.want)
		}
	}
}

// P7.1: numbers that tell no place, many that have none.
func TestPlaceIndex(t *testing.T) {
	for s, l := range map[string][]int{
		"0":        {0, 1, 9, math.MaxInt},
		"1":        {0},
		"-1":       {0},
		"5":        {0, 1, 4},
		"-5":       {0, 1, 4},
		"9999999":  {0, 9999998},
		"-9999999": {0, 9999998},
	} {
		for _, many := range append(l, -1, -2, -5, -6, -9999999, -10000000, math.MinInt, math.MinInt+1, math.MinInt+9999999) {
			if n, e := face.Place(s, many); n != 0 || e != api.ErrIndex {
				t.Errorf("Place(%q, %d): %d, %d; want ErrIndex", s, many, n, e)
			}
		}
	}
}

// P7.1: texts that are no whole numbers, however many there are.
func TestPlaceForm(t *testing.T) {
	for _, s := range []string{"", "-", "-0", "00", "01", "-01", "+1", "1.", "1.0", "1/", "/1", "1/1", "x", "1x", " 1", "1 ", "1\n", "\x00", "\xff", "1\xff", "\u0661", "\uff11", "10000000", "-10000000", "99999999999999999999", strings.Repeat("1", 1<<16)} {
		for _, many := range []int{0, 1, 4, -1, math.MaxInt, math.MinInt} {
			if n, e := face.Place(s, many); n != 0 || e != api.ErrForm {
				t.Errorf("Place(%q, %d): %d, %d; want ErrForm", s, many, n, e)
			}
		}
	}
}

// P7.3: a number below 0 tells the same place as one more than it and many.
func TestPlaceBack(t *testing.T) {
	for many := range 40 {
		for back := 1; back <= many+3; back++ {
			n, e := face.Place(strconv.Itoa(-back), many)
			m, f := face.Place(strconv.Itoa(many+1-back), many)
			if back > many { // what comes before the first one is no place, told either way
				m, f = 0, api.ErrIndex
			}
			if n != m || e != f {
				t.Errorf("%d back of %d: %d, %d; want %d, %d", back, many, n, e, m, f)
			}
		}
	}
}

// P7.1: the four forms of a corner.
func TestCorner(t *testing.T) {
	for s, want := range map[string]api.Corner{
		"3": {V: 2, T: -1, N: -1}, "-1/2": {V: 3, T: 1, N: -1}, "1//-1": {V: 0, T: -1, N: 0}, "2/1/1": {V: 1, T: 0, N: 0}, // the document's
		"1": {V: 0, T: -1, N: -1}, "-4": {V: 0, T: -1, N: -1}, "4": {V: 3, T: -1, N: -1}, "4/-2": {V: 3, T: 0, N: -1}, "-4/-2/-1": {V: 0, T: 0, N: 0}, "4/2/1": {V: 3, T: 1, N: 0},
	} {
		if c, e := face.Corner(s, 4, 2, 1); c != want || e != api.OK {
			t.Errorf("Corner(%q): %+v, %d; want %+v", s, c, e, want)
		}
	}
	if c, e := face.Corner("-1/-9999999/9999999", math.MaxInt, 9999999, 9999999); e != api.OK || c != (api.Corner{V: math.MaxInt - 1, T: 0, N: greatest}) {
		t.Errorf("of great many: %+v, %d", c, e)
	}
}

// P7.1: what is not told is not asked for among its many.
func TestCornerUntold(t *testing.T) {
	for _, many := range []int{0, -1, math.MinInt, math.MaxInt} {
		for _, x := range []struct {
			s       string
			v, t, n int
			want    api.Corner
		}{
			{"1", 1, many, many, api.Corner{V: 0, T: -1, N: -1}},
			{"1/1", 1, 1, many, api.Corner{V: 0, T: 0, N: -1}},
			{"1//1", 1, many, 1, api.Corner{V: 0, T: -1, N: 0}},
		} {
			if c, e := face.Corner(x.s, x.v, x.t, x.n); c != x.want || e != api.OK {
				t.Errorf("Corner(%q, %d, %d, %d): %+v, %d; want %+v", x.s, x.v, x.t, x.n, c, e, x.want)
			}
		}
	}
}

// P7.1: each of the numbers may tell no place.
func TestCornerIndex(t *testing.T) {
	for _, s := range []string{"5", "0", "1/3", "-5", "1/0", "1//0", "1/-3", "1//2", "1//-2", "1/1/2", "1/1/-2", "1/1/0", "1/3/1", "5/1/1", "5/3/2", "0/0/0", "9999999"} {
		if c, e := face.Corner(s, 4, 2, 1); c != (api.Corner{}) || e != api.ErrIndex {
			t.Errorf("Corner(%q): %+v, %d; want ErrIndex", s, c, e)
		}
	}
	for _, many := range []int{0, -1, math.MinInt} {
		for _, x := range []struct {
			s       string
			v, t, n int
		}{{"1", many, 1, 1}, {"-1", many, 1, 1}, {"1/1", 1, many, 1}, {"1/-1/1", 1, many, 1}, {"1//1", 1, 1, many}, {"1/1/-1", 1, 1, many}} {
			if c, e := face.Corner(x.s, x.v, x.t, x.n); c != (api.Corner{}) || e != api.ErrIndex {
				t.Errorf("Corner(%q, %d, %d, %d): %+v, %d; want ErrIndex", x.s, x.v, x.t, x.n, c, e)
			}
		}
	}
}

// P7.1: texts that are no corners; that stands ahead of a number that tells no place, wherever either is.
func TestCornerForm(t *testing.T) {
	for _, s := range []string{
		"", "/", "//", "///", "1/", "1//", "1///", "1/1/", "1///1", "/1", "//1", "/1/1", "1//1/", "1//1/1", "1/1/1/", "/1/1/1", "1/1/1/1", "1/1//1", "1//1//1",
		"x", "-", "1.5", "1/x", "1//x", "x//1", "1/1/x", "1/x/1", "x/1/1", "1/-/1", "1/ /1", "1/01", "1//+1", "-0", "1/-0", "00", "1\\1", "1 /1", "1/1 ", "1\n", "\xff", "1/\xff", "1\uff0f1",
		"9/x", "0/", "0//", "0/x", "x/0", "0/0/x", "0/x/0", "x/0/0", "9//9/", "0//x", "x//0", "0/0/0/0",
		"10000000", "1/10000000", "1//-10000000", strings.Repeat("/", 1<<16), strings.Repeat("1/", 1<<15), strings.Repeat("1", 1<<16),
	} {
		for _, many := range []int{4, 0, -1, math.MinInt, math.MaxInt} {
			if c, e := face.Corner(s, many, many, many); c != (api.Corner{}) || e != api.ErrForm {
				t.Errorf("Corner(%.20q, of %d): %+v, %d; want ErrForm", s, many, c, e)
			}
		}
	}
}

// P7.1: all short texts of the bytes that matter, and many longer ones, are held against the pattern.
func TestCornerPlain(t *testing.T) {
	for n := range 8 {
		texts("/-012", n, func(s string) {
			checkCorner(t, s, 2, 1, 3)
			checkCorner(t, s, 12, 2, 0)
		})
	}
	roll := rolls(7)
	parts := []string{"", "", "1", "-1", "2", "-2", "3", "-3", "4", "0", "-0", "07", "9999999", "x"}
	for range 100000 {
		l := make([]string, 1+roll(4))
		for i := range l {
			l[i] = parts[roll(len(parts))]
		}
		checkCorner(t, strings.Join(l, "/"), roll(6)-1, roll(6)-1, roll(6)-1)
	}
}

// P7.1: each kind of corner has its form.
func TestPrint(t *testing.T) {
	for want, c := range map[string]api.Corner{
		"3": {V: 2, T: -1, N: -1}, "4/2": {V: 3, T: 1, N: -1}, "1//1": {V: 0, T: -1, N: 0}, "2/1/1": {V: 1, T: 0, N: 0}, "1/1/1": {},
		"1": {V: 0, T: -1, N: -1}, "10/100/1000": {V: 9, T: 99, N: 999},
		"9999999": {V: greatest, T: -1, N: -1}, "9999999/9999999": {V: greatest, T: greatest, N: -1}, "9999999//9999999": {V: greatest, T: -1, N: greatest}, "9999999/9999999/9999999": {V: greatest, T: greatest, N: greatest},
	} {
		if s, e := face.Print(c); s != want || e != api.OK {
			t.Errorf("Print(%+v): %q, %d; want %q", c, s, e, want)
		}
	}
}

// P7.1: each part of a corner may be out of its bounds.
func TestPrintArg(t *testing.T) {
	wrong := []int{-2, -3, greatest + 1, greatest + 2, math.MaxInt, math.MinInt}
	for _, n := range append(wrong, -1) {
		for _, c := range []api.Corner{{V: n}, {V: n, T: -1, N: -1}, {V: n, T: -1}, {V: n, N: -1}, {V: n, T: n, N: n}} {
			if s, e := face.Print(c); s != "" || e != api.ErrArg {
				t.Errorf("Print(%+v): %q, %d; want ErrArg", c, s, e)
			}
		}
	}
	for _, n := range wrong {
		for _, c := range []api.Corner{{T: n}, {N: n}, {T: n, N: -1}, {T: -1, N: n}, {T: n, N: n}} {
			if s, e := face.Print(c); s != "" || e != api.ErrArg {
				t.Errorf("Print(%+v): %q, %d; want ErrArg", c, s, e)
			}
		}
	}
}

// P7.3: what is printed is a corner's text again, of the same corner.
func TestPrintBack(t *testing.T) {
	places := []int{-1, 0, 1, 8, 9, 98, 99, 123456, greatest - 1, greatest}
	for _, v := range places[1:] {
		for _, p := range places {
			for _, n := range places {
				want := api.Corner{V: v, T: p, N: n}
				s, e := face.Print(want)
				if e != api.OK {
					t.Fatalf("Print(%+v): %d", want, e)
				}
				// As many as just reach to each place.
				if c, e := face.Corner(s, v+1, p+1, n+1); c != want || e != api.OK {
					t.Fatalf("Corner(%q): %+v, %d; want %+v", s, c, e, want)
				}
			}
		}
	}
}

// P7.2, P7.3: two fewer than the corners, each with the first one and the next two, in order; corners may be any.
func TestFan(t *testing.T) {
	c := []api.Corner{{V: 5, T: 4, N: 3}, {V: -7}, {N: math.MinInt}, {V: 5, T: 4, N: 3}, {T: math.MaxInt}}
	for n, want := range [][][3]api.Corner{
		nil, nil, nil,
		{{c[0], c[1], c[2]}},
		{{c[0], c[1], c[2]}, {c[0], c[2], c[3]}},
		{{c[0], c[1], c[2]}, {c[0], c[2], c[3]}, {c[0], c[3], c[4]}},
	} {
		if l := face.Fan(c[:n]); !slices.Equal(l, want) {
			t.Errorf("Fan of %d: %v; want %v", n, l, want)
		}
	}
	if l := face.Fan(nil); len(l) != 0 {
		t.Errorf("Fan of none: %v", l)
	}
}

// P7.3: a fan of many.
func TestFanLong(t *testing.T) {
	l := make([]api.Corner, 3000)
	for i := range l {
		l[i] = api.Corner{V: i, T: -i, N: 2 * i}
	}
	for n := 2; n <= len(l); n += 1 + n/7 {
		fan := face.Fan(l[:n])
		if len(fan) != n-2 {
			t.Fatalf("Fan of %d: %d", n, len(fan))
		}
		for i, tri := range fan {
			if tri != [3]api.Corner{l[0], l[i+1], l[i+2]} {
				t.Fatalf("Fan of %d, at %d: %v", n, i, tri)
			}
		}
	}
}

// P7.2: faces of three corners and more, with each kind of corner; the same corner may come again.
func TestFace(t *testing.T) {
	c := func(v, p, n int) api.Corner { return api.Corner{V: v, T: p, N: n} }
	for _, x := range []struct {
		l    []string
		want [][3]api.Corner
	}{
		{[]string{"1", "2", "3"}, [][3]api.Corner{{c(0, -1, -1), c(1, -1, -1), c(2, -1, -1)}}},
		{[]string{"1", "2", "3", "-1"}, [][3]api.Corner{{c(0, -1, -1), c(1, -1, -1), c(2, -1, -1)}, {c(0, -1, -1), c(2, -1, -1), c(3, -1, -1)}}},
		{[]string{"1", "1", "1"}, [][3]api.Corner{{c(0, -1, -1), c(0, -1, -1), c(0, -1, -1)}}},
		{[]string{"4/1", "-3/2", "1/-2"}, [][3]api.Corner{{c(3, 0, -1), c(1, 1, -1), c(0, 0, -1)}}},
		{[]string{"1//1", "2//-1", "3//1"}, [][3]api.Corner{{c(0, -1, 0), c(1, -1, 0), c(2, -1, 0)}}},
		{[]string{"1/1/1", "2/2/1", "3/1/-1", "4/-1/1"}, [][3]api.Corner{{c(0, 0, 0), c(1, 1, 0), c(2, 0, 0)}, {c(0, 0, 0), c(2, 0, 0), c(3, 1, 0)}}},
	} {
		if l, e := face.Face(4, 2, 1, x.l...); e != api.OK || !slices.Equal(l, x.want) {
			t.Errorf("Face(%q): %v, %d; want %v", x.l, l, e, x.want)
		}
	}
}

// P7.2: the errors of a face, and which stands ahead of which.
func TestFaceErrors(t *testing.T) {
	for _, x := range []struct {
		l    []string
		want api.Errno
	}{
		// Too few, whatever they are.
		{nil, api.ErrForm}, {[]string{"1"}, api.ErrForm}, {[]string{"1", "2"}, api.ErrForm}, {[]string{"9"}, api.ErrForm}, {[]string{"9", "0"}, api.ErrForm}, {[]string{"x", "9"}, api.ErrForm},
		// The first corner that has an error.
		{[]string{"9", "1", "1"}, api.ErrIndex}, {[]string{"1", "1", "9"}, api.ErrIndex}, {[]string{"1", "1", "1", "1", "0"}, api.ErrIndex},
		{[]string{"x", "1", "1"}, api.ErrForm}, {[]string{"1", "1", ""}, api.ErrForm},
		{[]string{"1", "9", "x"}, api.ErrIndex}, {[]string{"1", "x", "9"}, api.ErrForm}, {[]string{"9", "x", "1"}, api.ErrIndex}, {[]string{"x", "9", "1"}, api.ErrForm}, {[]string{"9/x", "9", "1"}, api.ErrForm},
		// Told of some, at each place of the row.
		{[]string{"1/1", "2", "3"}, api.ErrForm}, {[]string{"1", "2/1", "3"}, api.ErrForm}, {[]string{"1", "2", "3/1"}, api.ErrForm}, {[]string{"1", "2/1", "3/1"}, api.ErrForm}, {[]string{"1/1", "2/1", "3"}, api.ErrForm},
		{[]string{"1//1", "2", "3"}, api.ErrForm}, {[]string{"1", "2//1", "3"}, api.ErrForm}, {[]string{"1", "2", "3//1"}, api.ErrForm}, {[]string{"1//1", "2//1", "3"}, api.ErrForm},
		{[]string{"1/1/1", "2/1/1", "3/1"}, api.ErrForm}, {[]string{"1/1/1", "2//1", "3/1/1"}, api.ErrForm}, {[]string{"1/1", "2//1", "3/1"}, api.ErrForm}, {[]string{"1/1/1", "2/1/1", "3/1/1", "4"}, api.ErrForm},
		// A corner's own error stands ahead of what is told of some.
		{[]string{"1/1", "2", "9"}, api.ErrIndex}, {[]string{"1", "2//1", "3", "0"}, api.ErrIndex}, {[]string{"1/9", "2", "3"}, api.ErrIndex}, {[]string{"1", "2", "3//2"}, api.ErrIndex},
	} {
		if l, e := face.Face(4, 2, 1, x.l...); len(l) != 0 || e != x.want {
			t.Errorf("Face(%q): %v, %d; want %d", x.l, l, e, x.want)
		}
	}
}

// P7.2: of no points no face; of wrong many those alone that are asked.
func TestFaceMany(t *testing.T) {
	for _, many := range []int{0, -1, math.MinInt} {
		if l, e := face.Face(many, 9, 9, "1", "2", "3"); len(l) != 0 || e != api.ErrIndex {
			t.Errorf("of %d points: %v, %d", many, l, e)
		}
		if l, e := face.Face(3, many, many, "1", "2", "3"); len(l) != 1 || e != api.OK {
			t.Errorf("of %d others: %v, %d", many, l, e)
		}
	}
	if l, e := face.Face(math.MaxInt, 0, 0, "-1", "1", "-9999999"); e != api.OK || len(l) != 1 || l[0][0].V != math.MaxInt-1 || l[0][2].V != math.MaxInt-9999999 {
		t.Errorf("of great many: %v, %d", l, e)
	}
}

// P7.2: all rows of up to four of some corners, and many longer ones, are held against the plain way.
func TestFacePlain(t *testing.T) {
	some := []string{"1", "-1", "2/1", "1/-1", "2//1", "1/1/1", "9", "1/9", "x", "1/", ""}
	rows := [][]string{nil}
	for i := 0; i < len(rows); i++ {
		checkFace(t, 2, 1, 1, rows[i])
		if len(rows[i]) == 4 {
			continue
		}
		for _, s := range some {
			rows = append(rows, append(slices.Clone(rows[i]), s))
		}
	}
	roll := rolls(72)
	for range 20000 {
		kind := [][]string{{"1", "-2", "3"}, {"1/1", "2/-1", "-1/2"}, {"1//1", "3//-2"}, {"1/1/1", "3/2/-1", "-2/-2/2"}}[roll(4)]
		l := make([]string, roll(12))
		for i := range l {
			l[i] = kind[roll(len(kind))]
			if roll(40) == 0 {
				l[i] = some[roll(len(some))]
			}
		}
		checkFace(t, 3, 2, 2, l)
	}
}

// R2: what is given stays as it is, and each answer is its own.
func TestMemory(t *testing.T) {
	l := []api.Corner{{V: 0}, {V: 1}, {V: 2}, {V: 3}}
	given := slices.Clone(l)
	a, b := face.Fan(l), face.Fan(l)
	a[0][0].V, a[1] = 9, [3]api.Corner{}
	if !slices.Equal(l, given) || b[0] != [3]api.Corner{l[0], l[1], l[2]} || b[1] != [3]api.Corner{l[0], l[2], l[3]} {
		t.Errorf("Fan: %v, %v", l, b)
	}
	l[0].V = 7
	if b[0][0].V != 0 {
		t.Errorf("Fan keeps its corners: %v", b)
	}
	row := []string{"1", "2", "3", "x"}
	first, _ := face.Face(3, 0, 0, row[:3]...)
	again, _ := face.Face(3, 0, 0, row[:3]...)
	first[0][1].V = 9
	if _, e := face.Face(3, 0, 0, row...); e != api.ErrForm {
		t.Errorf("Face: %d", e)
	}
	if again[0][1].V != 1 || !slices.Equal(row, []string{"1", "2", "3", "x"}) {
		t.Errorf("Face: %v, %q", again, row)
	}
}
