package frac_test

import (
	"cmp"
	"math"
	"math/big"
	"slices"
	"testing"

	"limewash/api"
	"limewash/frac"
)

func f(n, d int) api.Frac {
	return api.Frac{N: n, D: d}
}

// rights are right ones: ordinary ones, the edges, and such as differ by less than a float tells.
func rights() []api.Frac {
	var l []api.Frac
	for _, n := range []int{0, 1, 2, 3, 6, 7, 12, 999999999, 1000000000, 1000000001, 333333333333333333, 499999999999999999, 500000000000000000, api.Base - 2, api.Base - 1, api.Base} {
		for _, d := range []int{1, 2, 3, 4, 7, 9, 1000000000, 1000000007, 333333333333333334, 500000000000000000, api.Base - 1, api.Base} {
			l = append(l, f(n, d))
			if n != 0 {
				l = append(l, f(-n, d))
			}
		}
	}
	return l
}

// wrongs are fractions that are not right: by D, by N, by both.
func wrongs() []api.Frac {
	return []api.Frac{
		{}, f(1, 0), f(-1, 0), f(1, -1), f(6, 0), f(0, -api.Base), f(0, api.Base+1), f(1, math.MaxInt), f(1, math.MinInt),
		f(api.Base+1, 1), f(-api.Base-1, 1), f(api.Base+1, api.Base), f(math.MaxInt, 1), f(math.MinInt, 1),
		f(math.MinInt, math.MinInt), f(math.MinInt, math.MaxInt), f(math.MaxInt, math.MinInt), f(math.MaxInt, math.MaxInt), f(api.Base+1, api.Base+1), f(-api.Base-1, 0),
	}
}

// worth is what a right one is worth, by the document's words alone.
func worth(a api.Frac) *big.Rat {
	return big.NewRat(int64(a.N), int64(a.D))
}

// sign is n's side alone.
func sign(n int) int {
	return cmp.Compare(n, 0)
}

// P3.1: Is.
func TestIs(t *testing.T) {
	for _, a := range rights() {
		if !frac.Is(a) {
			t.Errorf("Is(%+v): false", a)
		}
	}
	for _, a := range wrongs() {
		if frac.Is(a) {
			t.Errorf("Is(%+v): true", a)
		}
	}
}

// P3.1: Cmp of right ones.
func TestCmpRight(t *testing.T) {
	for _, a := range rights() {
		for _, b := range rights() {
			if got, want := frac.Cmp(a, b), worth(a).Cmp(worth(b)); got != want {
				t.Errorf("Cmp(%+v, %+v): %d, want %d", a, b, got, want)
			}
		}
	}
}

// P3.1: Cmp of two of which one is not right, or neither.
func TestCmpWrong(t *testing.T) {
	for _, a := range wrongs() {
		for _, b := range rights() {
			if frac.Cmp(a, b) != -1 || frac.Cmp(b, a) != 1 {
				t.Errorf("Cmp(%+v, %+v): %d, and %d", a, b, frac.Cmp(a, b), frac.Cmp(b, a))
			}
		}
		for _, b := range wrongs() {
			want := 0
			switch {
			case a.N < b.N || a.N == b.N && a.D < b.D:
				want = -1
			case a != b:
				want = 1
			}
			if got := frac.Cmp(a, b); got != want {
				t.Errorf("Cmp(%+v, %+v): %d, want %d", a, b, got, want)
			}
		}
	}
}

// P3.1: Cmp, spelt out.
func TestCmpTable(t *testing.T) {
	for _, x := range []struct {
		a, b api.Frac
		want int
	}{
		{f(1, 3), f(2, 6), 0}, {f(-1, 2), f(-1, 3), -1}, {f(1, 2), f(1, 3), 1}, {f(0, 1), f(0, api.Base), 0}, {f(-1, api.Base), f(0, 1), -1},
		{f(api.Base, 1), f(api.Base, 2), 1}, {f(-api.Base, 1), f(api.Base, 1), -1}, {f(api.Base, api.Base), f(1, 1), 0},
		{f(api.Base-1, api.Base), f(api.Base-2, api.Base-1), 1}, {f(1-api.Base, api.Base), f(2-api.Base, api.Base-1), -1}, {f(1, api.Base), f(1, api.Base-1), -1},
		{f(9, 0), f(-5, 1), -1}, {f(-5, 1), f(9, 0), 1}, {f(1, 0), f(2, -3), -1}, {f(1, 0), f(1, -1), 1}, {f(1, 0), f(1, 0), 0},
		{f(api.Base+1, 1), f(-api.Base, 1), -1}, {f(-2, -1), f(-1, -9), -1},
		{f(math.MinInt, 0), f(math.MaxInt, 0), -1}, {f(0, math.MaxInt), f(0, math.MinInt), 1},
	} {
		if got := frac.Cmp(x.a, x.b); got != x.want {
			t.Errorf("Cmp(%+v, %+v): %d, want %d", x.a, x.b, got, x.want)
		}
	}
}

// P3.1 and P3.3: Floor, and the whole numbers it lies between.
func TestFloor(t *testing.T) {
	for _, a := range rights() {
		n, e := frac.Floor(a)
		below, above := big.NewRat(int64(n), 1), big.NewRat(int64(n)+1, 1)
		if e != api.OK || worth(a).Cmp(below) < 0 || worth(a).Cmp(above) >= 0 {
			t.Errorf("Floor(%+v): %d, %d", a, n, e)
		}
	}
	for a, want := range map[api.Frac]int{
		f(-7, 2): -4, f(7, 2): 3, f(-6, 3): -2, f(6, 3): 2, f(0, 9): 0, f(-1, api.Base): -1, f(1, api.Base): 0,
		f(api.Base, 1): api.Base, f(-api.Base, 1): -api.Base, f(api.Base-1, api.Base): 0, f(1-api.Base, api.Base): -1, f(-api.Base, api.Base): -1, f(-api.Base, api.Base-1): -2,
	} {
		if n, e := frac.Floor(a); n != want || e != api.OK {
			t.Errorf("Floor(%+v): %d, %d, want %d", a, n, e, want)
		}
	}
}

// P3.1: Reduce; big.Rat keeps its numbers reduced.
func TestReduce(t *testing.T) {
	for _, a := range rights() {
		want := f(int(worth(a).Num().Int64()), int(worth(a).Denom().Int64()))
		if b, e := frac.Reduce(a); b != want || e != api.OK {
			t.Errorf("Reduce(%+v): %+v, %d, want %+v", a, b, e, want)
		}
	}
	for a, want := range map[api.Frac]api.Frac{
		f(-6, 4): f(-3, 2), f(6, 4): f(3, 2), f(0, 9): f(0, 1), f(0, 1): f(0, 1), f(0, api.Base): f(0, 1), f(5, 7): f(5, 7), f(-7, 7): f(-1, 1),
		f(api.Base, api.Base): f(1, 1), f(-api.Base, api.Base): f(-1, 1), f(api.Base, 1): f(api.Base, 1), f(-api.Base, 500000000000000000): f(-2, 1), f(1, api.Base): f(1, api.Base),
	} {
		if b, e := frac.Reduce(a); b != want || e != api.OK {
			t.Errorf("Reduce(%+v): %+v, %d, want %+v", a, b, e, want)
		}
	}
}

// P3.1: Floor and Reduce of one that is not right; beside an error all else is zero.
func TestErrors(t *testing.T) {
	for _, a := range wrongs() {
		if n, e := frac.Floor(a); n != 0 || e != api.ErrArg {
			t.Errorf("Floor(%+v): %d, %d", a, n, e)
		}
		if b, e := frac.Reduce(a); b != (api.Frac{}) || e != api.ErrArg {
			t.Errorf("Reduce(%+v): %+v, %d", a, b, e)
		}
	}
}

// P3.2: Least, spelt out.
func TestLeastTable(t *testing.T) {
	for i, x := range []struct {
		l    []api.Frac
		want int
		ok   bool
	}{
		{nil, 0, false}, {[]api.Frac{}, 0, false}, {[]api.Frac{f(5, 1)}, 0, true}, {[]api.Frac{f(5, 0)}, 0, true},
		{[]api.Frac{f(1, 2), f(2, 6), f(1, 3)}, 1, true}, {[]api.Frac{f(1, 3), f(2, 6), f(1, 2)}, 0, true}, {[]api.Frac{f(3, 1), f(2, 1), f(1, 1)}, 2, true},
		{[]api.Frac{f(0, 9), f(0, 1), f(-1, api.Base)}, 2, true}, {[]api.Frac{f(2, 2), f(1, 1), f(3, 3)}, 0, true},
		{[]api.Frac{f(-9, 1), f(9, 0), f(8, -1), f(8, 0)}, 2, true}, {[]api.Frac{f(-9, 1), f(9, 0), f(9, 0)}, 1, true},
	} {
		kept := slices.Clone(x.l)
		if n, ok := frac.Least(x.l...); n != x.want || ok != x.ok || !slices.Equal(kept, x.l) {
			t.Errorf("%d: Least(%+v): %d, %t, want %d, %t", i, kept, n, ok, x.want, x.ok)
		}
	}
}

// mixed is all of them, right and wrong, some of them twice, in no order: 97 has no divisor in common with how many there are.
func mixed(t *testing.T) []api.Frac {
	t.Helper()
	l := slices.Concat(rights(), wrongs(), rights()[:50], wrongs()[:9])
	if len(l)%97 == 0 {
		t.Fatal("97 divides how many there are")
	}
	m := make([]api.Frac, len(l))
	for i := range m {
		m[i] = l[i*97%len(l)]
	}
	return m
}

// P3.2: Least, from each place on.
func TestLeastRows(t *testing.T) {
	m := mixed(t)
	for from := range m {
		l := m[from:]
		n, ok := frac.Least(l...)
		if !ok || n < 0 || n >= len(l) {
			t.Fatalf("from %d: Least: %d, %t", from, n, ok)
		}
		for i, a := range l {
			if c := frac.Cmp(a, l[n]); c < 0 || c == 0 && i < n {
				t.Errorf("from %d: Least: %d, but %d is as little, or less", from, n, i)
			}
		}
	}
}

// P3.2: Sort, spelt out: those that are as great stay as they are to one another, and l stays as it is.
func TestSortTable(t *testing.T) {
	for i, x := range []struct{ l, want []api.Frac }{
		{nil, nil}, {[]api.Frac{}, nil}, {[]api.Frac{f(1, 2)}, []api.Frac{f(1, 2)}}, {[]api.Frac{f(1, 0)}, []api.Frac{f(1, 0)}},
		{[]api.Frac{f(1, 2), f(2, 6), f(1, 3), f(-1, 1), f(5, 0), f(2, 4)}, []api.Frac{f(5, 0), f(-1, 1), f(2, 6), f(1, 3), f(1, 2), f(2, 4)}},
		{[]api.Frac{f(3, 3), f(2, 2), f(0, 5), f(1, 1), f(0, 3)}, []api.Frac{f(0, 5), f(0, 3), f(3, 3), f(2, 2), f(1, 1)}},
		{[]api.Frac{f(1, 0), f(1, 1), f(1, -1), f(-1, 0), f(api.Base+1, 1)}, []api.Frac{f(-1, 0), f(1, -1), f(1, 0), f(api.Base+1, 1), f(1, 1)}},
	} {
		kept := slices.Clone(x.l)
		if s := frac.Sort(x.l); !slices.Equal(s, x.want) || !slices.Equal(kept, x.l) {
			t.Errorf("%d: Sort(%+v): %+v, want %+v", i, kept, s, x.want)
		}
	}
}

// P3.2: Sort of many, held against a plain row into which each is put behind those that are no greater.
func TestSortMany(t *testing.T) {
	l := mixed(t)
	kept := slices.Clone(l)
	var want []api.Frac
	for _, a := range l {
		at := len(want)
		for at > 0 && frac.Cmp(a, want[at-1]) < 0 {
			at--
		}
		want = slices.Insert(want, at, a)
	}
	s := frac.Sort(l)
	if !slices.Equal(s, want) {
		t.Errorf("Sort: %+v, want %+v", s, want)
	}
	for i := range s {
		s[i] = f(77, 77)
	}
	if !slices.Equal(l, kept) {
		t.Error("Sort: shares memory with what it was given, or changes it")
	}
}

// P3.2: what is sorted already is new memory too.
func TestSortIsNew(t *testing.T) {
	l := []api.Frac{f(1, 2), f(1, 1), f(2, 1)}
	s, again := frac.Sort(l), frac.Sort(l)
	s[0] = f(9, 9)
	if l[0] != f(1, 2) || again[0] != f(1, 2) {
		t.Error("Sort: shares memory")
	}
}

// P3.3: less and less is less, right or wrong; both ways round the sides are turned.
func TestOrder(t *testing.T) {
	l := slices.Concat(wrongs(), rights()[:90])
	for _, a := range l {
		for _, b := range l {
			ab := frac.Cmp(a, b)
			if ab != sign(ab) || frac.Cmp(b, a) != -ab {
				t.Errorf("Cmp(%+v, %+v): %d, and %d", a, b, ab, frac.Cmp(b, a))
			}
			for _, c := range l {
				if ab <= 0 && frac.Cmp(b, c) <= 0 && frac.Cmp(a, c) != min(ab, frac.Cmp(b, c)) {
					t.Errorf("Cmp(%+v, %+v): %d, with %+v between", a, c, frac.Cmp(a, c), b)
				}
			}
		}
	}
}

// P3.3: reduced ones are as great only if they are the same; and they are as great as what they come of.
func TestReducedAreTheSame(t *testing.T) {
	for _, a := range rights() {
		x, _ := frac.Reduce(a)
		if !frac.Is(x) || frac.Cmp(a, x) != 0 {
			t.Errorf("Reduce(%+v): %+v", a, x)
		}
		for _, b := range rights() {
			y, _ := frac.Reduce(b)
			if (frac.Cmp(a, b) == 0) != (x == y) {
				t.Errorf("%+v and %+v, reduced: %+v and %+v", a, b, x, y)
			}
		}
	}
}
