package whole_test

import (
	"math"
	"math/big"
	"slices"
	"testing"

	"limewash/api"
	"limewash/whole"
)

// root is that of the greatest int.
const root = 3037000499

// ints are ordinary ones, the edges, and what is next to those, above 0 and below.
func ints() []int {
	l := []int{math.MinInt, math.MinInt + 1, math.MinInt + 2}
	for _, n := range []int{0, 5, 9, 99, 720720, 1000000007, root, root * root, 1 << 31, 1 << 32, 1 << 62, math.MaxInt/2 + 1, math.MaxInt - 1} {
		for _, m := range []int{n - 1, n, n + 1} {
			l = append(l, m, -m)
		}
	}
	return l
}

// rounded is a divided by b, downwards or upwards, and what is left of it, by the document's words alone.
func rounded(a, b int, up bool) (*big.Int, *big.Int) {
	n, d := big.NewInt(int64(a)), big.NewInt(int64(b))
	q, left := new(big.Int).QuoRem(n, d, new(big.Int))
	isAbove := left.Sign()*d.Sign() > 0 // the fraction lies above q, q being what is nearer to 0
	if left.Sign() != 0 && isAbove == up {
		step := int64(-1)
		if up {
			step = 1
		}
		q.Add(q, big.NewInt(step))
	}
	return q, left.Sub(n, new(big.Int).Mul(d, q))
}

// P2.1: Floor.
func TestFloor(t *testing.T) {
	for _, a := range ints() {
		for _, b := range ints() {
			if b == 0 {
				continue
			}
			wantQ, wantLeft := rounded(a, b, false)
			wantErr := api.OK
			if !wantQ.IsInt64() {
				wantQ, wantLeft, wantErr = new(big.Int), new(big.Int), api.ErrWide
			}
			q, left, e := whole.Floor(a, b)
			if int64(q) != wantQ.Int64() || int64(left) != wantLeft.Int64() || e != wantErr {
				t.Errorf("Floor(%d, %d): %d, %d, %d, want %d, %d, %d", a, b, q, left, e, wantQ, wantLeft, wantErr)
			}
		}
	}
}

// P2.1: Ceil.
func TestCeil(t *testing.T) {
	for _, a := range ints() {
		for _, b := range ints() {
			if b == 0 {
				continue
			}
			want, _ := rounded(a, b, true)
			wantErr := api.OK
			if !want.IsInt64() {
				want, wantErr = new(big.Int), api.ErrWide
			}
			if q, e := whole.Ceil(a, b); int64(q) != want.Int64() || e != wantErr {
				t.Errorf("Ceil(%d, %d): %d, %d, want %d, %d", a, b, q, e, want, wantErr)
			}
		}
	}
}

// P2.1: both of them, spelt out.
func TestDivisionTable(t *testing.T) {
	for _, x := range []struct{ a, b, q, left, ceil int }{
		{7, 2, 3, 1, 4}, {-7, 2, -4, 1, -3}, {7, -2, -4, -1, -3}, {-7, -2, 3, -1, 4},
		{8, 2, 4, 0, 4}, {-8, 2, -4, 0, -4}, {8, -2, -4, 0, -4}, {-8, -2, 4, 0, 4},
		{0, 3, 0, 0, 0}, {0, -3, 0, 0, 0}, {1, 5, 0, 1, 1}, {-1, 5, -1, 4, 0}, {1, -5, -1, -4, 0}, {-1, -5, 0, -1, 1},
		{math.MinInt, 1, math.MinInt, 0, math.MinInt}, {math.MaxInt, -1, -math.MaxInt, 0, -math.MaxInt},
		{math.MinInt, math.MinInt, 1, 0, 1}, {math.MaxInt, math.MinInt, -1, -1, 0}, {math.MinInt, math.MaxInt, -2, math.MaxInt - 1, -1},
		{math.MinInt, -2, 1 << 62, 0, 1 << 62}, {math.MinInt + 1, -1, math.MaxInt, 0, math.MaxInt}, {-1, math.MinInt, 0, -1, 1},
	} {
		if q, left, e := whole.Floor(x.a, x.b); q != x.q || left != x.left || e != api.OK {
			t.Errorf("Floor(%d, %d): %d, %d, %d", x.a, x.b, q, left, e)
		}
		if q, e := whole.Ceil(x.a, x.b); q != x.ceil || e != api.OK {
			t.Errorf("Ceil(%d, %d): %d, %d", x.a, x.b, q, e)
		}
	}
}

// P2.1: a divisor that is 0, and the one quotient that is no int; beside an error all else is 0.
func TestDivisionErrors(t *testing.T) {
	type pair struct {
		a, b int
		err  api.Errno
	}
	l := []pair{{math.MinInt, -1, api.ErrWide}}
	for _, a := range ints() {
		l = append(l, pair{a, 0, api.ErrZero})
	}
	for _, x := range l {
		if q, left, e := whole.Floor(x.a, x.b); q != 0 || left != 0 || e != x.err {
			t.Errorf("Floor(%d, %d): %d, %d, %d, want %d", x.a, x.b, q, left, e, x.err)
		}
		if q, e := whole.Ceil(x.a, x.b); q != 0 || e != x.err {
			t.Errorf("Ceil(%d, %d): %d, %d, want %d", x.a, x.b, q, e, x.err)
		}
	}
}

// P2.2: Gcd.
func TestGcd(t *testing.T) {
	const least = math.MinInt
	for i, x := range []struct {
		l    []int
		want int
		err  api.Errno
	}{
		{nil, 0, api.OK}, {[]int{}, 0, api.OK}, {[]int{0}, 0, api.OK}, {[]int{0, 0, 0}, 0, api.OK},
		{[]int{12, -18}, 6, api.OK}, {[]int{-12, -18}, 6, api.OK}, {[]int{7}, 7, api.OK}, {[]int{-7}, 7, api.OK},
		{[]int{0, 7}, 7, api.OK}, {[]int{-7, 0}, 7, api.OK}, {[]int{0, 6, 0, 9, 0}, 3, api.OK}, {[]int{35, 21, 14}, 7, api.OK}, {[]int{6, 10, 15}, 1, api.OK},
		{[]int{math.MaxInt}, math.MaxInt, api.OK}, {[]int{-math.MaxInt, 0}, math.MaxInt, api.OK}, {[]int{math.MaxInt, math.MaxInt - 1}, 1, api.OK},
		{[]int{least}, 0, api.ErrWide}, {[]int{least, 0}, 0, api.ErrWide}, {[]int{0, least, least}, 0, api.ErrWide},
		{[]int{least, 6}, 2, api.OK}, {[]int{6, least}, 2, api.OK}, {[]int{least, least, 1 << 62}, 1 << 62, api.OK}, {[]int{least, -1 << 62}, 1 << 62, api.OK},
		{[]int{least, 3}, 1, api.OK}, {[]int{least, -math.MaxInt}, 1, api.OK},
	} {
		kept := slices.Clone(x.l)
		if g, e := whole.Gcd(x.l...); g != x.want || e != x.err || !slices.Equal(kept, x.l) {
			t.Errorf("%d: Gcd(%d): %d, %d, want %d, %d", i, kept, g, e, x.want, x.err)
		}
	}
}

// P2.2: Gcd of two and of three, in any order.
func TestGcdRows(t *testing.T) {
	l := ints()
	for i, a := range l {
		for j, b := range l {
			c := l[(i*7+j*5+3)%len(l)]
			want := new(big.Int).GCD(nil, nil, new(big.Int).Abs(big.NewInt(int64(a))), new(big.Int).Abs(big.NewInt(int64(b))))
			checkGcd(t, want, a, b)
			want = new(big.Int).GCD(nil, nil, want, new(big.Int).Abs(big.NewInt(int64(c))))
			checkGcd(t, want, a, b, c)
			checkGcd(t, want, c, a, b)
			checkGcd(t, want, b, c, a)
		}
	}
}

func checkGcd(t *testing.T, want *big.Int, l ...int) {
	t.Helper()
	wantErr := api.OK
	if !want.IsInt64() {
		want, wantErr = new(big.Int), api.ErrWide
	}
	if g, e := whole.Gcd(l...); int64(g) != want.Int64() || e != wantErr {
		t.Errorf("Gcd(%d): %d, %d, want %d, %d", l, g, e, want, wantErr)
	}
}

// P2.2: Sqrt.
func TestSqrt(t *testing.T) {
	for n := 0; n < 3000; n++ {
		checkSqrt(t, n)
	}
	for _, r := range []int{1000, 65535, 65536, 46341, 1<<31 - 1, 1 << 31, 1<<31 + 1, 3000000000, root - 1, root} {
		for _, n := range []int{r*r - 1, r * r, r*r + 1, r*r + r} {
			checkSqrt(t, n)
		}
	}
	for _, n := range ints() {
		if n >= 0 {
			checkSqrt(t, n)
		}
	}
	for n, want := range map[int]int{0: 0, 1: 1, 3: 1, 4: 2, 99: 9, 100: 10, math.MaxInt: root, root * root: root, root*root - 1: root - 1} {
		if r, e := whole.Sqrt(n); r != want || e != api.OK {
			t.Errorf("Sqrt(%d): %d, %d, want %d", n, r, e, want)
		}
	}
}

func checkSqrt(t *testing.T, n int) {
	t.Helper()
	want := new(big.Int).Sqrt(big.NewInt(int64(n)))
	if r, e := whole.Sqrt(n); int64(r) != want.Int64() || e != api.OK {
		t.Errorf("Sqrt(%d): %d, %d, want %d", n, r, e, want)
	}
}

// P2.2: Sqrt of what is below 0.
func TestSqrtBelow(t *testing.T) {
	for _, n := range []int{-1, -2, -100, -root * root, math.MinInt + 1, math.MinInt} {
		if r, e := whole.Sqrt(n); r != 0 || e != api.ErrArg {
			t.Errorf("Sqrt(%d): %d, %d", n, r, e)
		}
	}
}

// P2.2: Clamp.
func TestClamp(t *testing.T) {
	for _, n := range ints() {
		for _, least := range ints() {
			for _, most := range []int{least, 0, 9, -9, math.MaxInt, math.MinInt} {
				want, wantErr := n, api.OK
				if n < least {
					want = least
				} else if n > most {
					want = most
				}
				if least > most {
					want, wantErr = 0, api.ErrArg
				}
				if c, e := whole.Clamp(n, least, most); c != want || e != wantErr {
					t.Errorf("Clamp(%d, %d, %d): %d, %d, want %d, %d", n, least, most, c, e, want, wantErr)
				}
			}
		}
	}
}

// P2.2: Clamp, spelt out.
func TestClampTable(t *testing.T) {
	for _, x := range []struct {
		n, least, most, want int
		err                  api.Errno
	}{
		{5, 1, 9, 5, api.OK}, {0, 1, 9, 1, api.OK}, {10, 1, 9, 9, api.OK}, {1, 1, 9, 1, api.OK}, {9, 1, 9, 9, api.OK},
		{3, 4, 4, 4, api.OK}, {5, 4, 4, 4, api.OK}, {-7, -5, -2, -5, api.OK}, {5, 6, 5, 0, api.ErrArg}, {5, math.MaxInt, math.MinInt, 0, api.ErrArg},
		{math.MinInt, math.MinInt, math.MaxInt, math.MinInt, api.OK}, {math.MaxInt, math.MinInt, 0, 0, api.OK},
	} {
		if c, e := whole.Clamp(x.n, x.least, x.most); c != x.want || e != x.err {
			t.Errorf("Clamp(%d, %d, %d): %d, %d", x.n, x.least, x.most, c, e)
		}
	}
}

// P2.3: what is left stands on b's side, nearer to 0 than b; Floor and Ceil are the same, or next to one another.
func TestFloorAndCeil(t *testing.T) {
	for _, a := range ints() {
		for _, b := range ints() {
			q, left, e := whole.Floor(a, b)
			c, f := whole.Ceil(a, b)
			if e != f {
				t.Errorf("%d by %d: %d, %d", a, b, e, f)
			}
			if e != api.OK {
				continue
			}
			// Wrap-round has no effect on whether these are the same.
			isBack := b*q+left == a
			isBeside := left == 0 || b > 0 && 0 < left && left < b || b < 0 && b < left && left < 0
			isNext := left == 0 && c == q || left != 0 && c == q+1
			if !isBack || !isBeside || !isNext {
				t.Errorf("%d by %d: %d, %d and %d", a, b, q, left, c)
			}
		}
	}
}

// P2.3: a greatest divisor divides each; divided by it they have 1.
func TestGcdDivides(t *testing.T) {
	l := ints()
	for i, a := range l {
		b, c := l[(i*7+3)%len(l)], l[(i*11+5)%len(l)]
		g, e := whole.Gcd(a, b, c)
		if e != api.OK || g == 0 {
			continue
		}
		var parts []int
		for _, n := range []int{a, b, c} {
			q, left, e := whole.Floor(n, g)
			if left != 0 || e != api.OK {
				t.Errorf("%d by %d: %d, %d", n, g, left, e)
			}
			parts = append(parts, q)
		}
		if one, e := whole.Gcd(parts...); one != 1 || e != api.OK {
			t.Errorf("Gcd(%d): %d, %d", parts, one, e)
		}
	}
}

// P2.3: a root's square is at most the number, that of the next one more.
func TestSqrtBounds(t *testing.T) {
	for _, n := range ints() {
		if n < 0 {
			continue
		}
		r, e := whole.Sqrt(n)
		least := new(big.Int).Mul(big.NewInt(int64(r)), big.NewInt(int64(r)))
		next := new(big.Int).Mul(big.NewInt(int64(r)+1), big.NewInt(int64(r)+1))
		if e != api.OK || least.Cmp(big.NewInt(int64(n))) > 0 || next.Cmp(big.NewInt(int64(n))) <= 0 {
			t.Errorf("Sqrt(%d): %d, %d", n, r, e)
		}
	}
}
