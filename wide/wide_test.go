package wide_test

import (
	"math"
	"math/big"
	"slices"
	"testing"

	"limewash/api"
	"limewash/wide"
)

// number is what a stands for, by the document's words alone.
func number(a api.Wide) *big.Int {
	n := new(big.Int).Mul(big.NewInt(int64(a.Hi)), big.NewInt(api.Base))
	return n.Add(n, big.NewInt(int64(a.Lo)))
}

// rightOf is the right Wide of n, and whether there is one.
func rightOf(n *big.Int) (api.Wide, bool) {
	hi, lo := new(big.Int).DivMod(n, big.NewInt(api.Base), new(big.Int))
	if hi.CmpAbs(big.NewInt(api.MaxHi)) > 0 {
		return api.Wide{}, false
	}
	return api.Wide{Hi: int(hi.Int64()), Lo: int(lo.Int64())}, true
}

// ints are ordinary ones, the edges, and what is next to those.
func ints() []int {
	l := []int{math.MinInt, math.MinInt + 1, math.MaxInt - 1, math.MaxInt, 12, 1000000007, 123456789012345678, 987654321098765432, 6700417000000000}
	for _, n := range []int{0, 7, 1000000000, api.Base, 2 * api.Base, 9 * api.Base, api.MaxHi} {
		l = append(l, n-1, n, n+1, -n-1, -n, -n+1)
	}
	return l
}

// rights are right Wides, the edges among them.
func rights() []api.Wide {
	var l []api.Wide
	for _, hi := range []int{0, 1, 2, 8, 9, 10, 11, 1000000000, 999999999999999999, 2000000000000000000, api.MaxHi - 1, api.MaxHi} {
		for _, lo := range []int{0, 1, 7, 999999999, 1000000000, 223372036854775807, 223372036854775808, 776627963145224191, 776627963145224192, api.Base - 2, api.Base - 1} {
			l = append(l, api.Wide{Hi: hi, Lo: lo}, api.Wide{Hi: -hi, Lo: lo})
		}
	}
	return l
}

// wrongs are Wides that are not right.
func wrongs() []api.Wide {
	return []api.Wide{
		{Lo: -1}, {Lo: api.Base}, {Lo: math.MinInt}, {Lo: math.MaxInt}, {Hi: 1, Lo: -1}, {Hi: -1, Lo: api.Base},
		{Hi: api.MaxHi + 1}, {Hi: -api.MaxHi - 1}, {Hi: -api.MaxHi - 1, Lo: api.Base - 1}, {Hi: math.MinInt}, {Hi: math.MaxInt}, {Hi: math.MinInt, Lo: math.MinInt}, {Hi: math.MaxInt, Lo: math.MaxInt},
	}
}

// P1.1: Is.
func TestIs(t *testing.T) {
	for _, a := range rights() {
		if !wide.Is(a) {
			t.Errorf("Is(%+v): false", a)
		}
	}
	for _, a := range wrongs() {
		if wide.Is(a) {
			t.Errorf("Is(%+v): true", a)
		}
	}
}

// P1.1: Of.
func TestOf(t *testing.T) {
	for _, n := range ints() {
		want, _ := rightOf(big.NewInt(int64(n)))
		if a := wide.Of(n); a != want {
			t.Errorf("Of(%d): %+v, want %+v", n, a, want)
		}
	}
	if a := wide.Of(-1); a != (api.Wide{Hi: -1, Lo: 999999999999999999}) {
		t.Errorf("Of(-1): %+v", a)
	}
}

// P1.1: Mul.
func TestMul(t *testing.T) {
	for _, a := range ints() {
		for _, b := range ints() {
			wantErr := api.OK
			want, _ := rightOf(new(big.Int).Mul(big.NewInt(int64(a)), big.NewInt(int64(b))))
			if a < -api.Base || a > api.Base || b < -api.Base || b > api.Base {
				want, wantErr = api.Wide{}, api.ErrLimit
			}
			if p, e := wide.Mul(a, b); p != want || e != wantErr {
				t.Errorf("Mul(%d, %d): %+v, %d, want %+v, %d", a, b, p, e, want, wantErr)
			}
		}
	}
	if p, e := wide.Mul(1000000000000, 3000000); p != (api.Wide{Hi: 3}) || e != api.OK {
		t.Errorf("Mul: %+v, %d", p, e)
	}
}

// P1.1: Add of two.
func TestAddTwo(t *testing.T) {
	for _, a := range rights() {
		for _, b := range rights() {
			want, ok := rightOf(new(big.Int).Add(number(a), number(b)))
			wantErr := api.OK
			if !ok {
				wantErr = api.ErrWide
			}
			if s, e := wide.Add(a, b); s != want || e != wantErr {
				t.Errorf("Add(%+v, %+v): %+v, %d, want %+v, %d", a, b, s, e, want, wantErr)
			}
		}
	}
}

// P1.1: Add of none, of one, of many, and of sums that leave the bounds on the way, from the first one on.
func TestAddMany(t *testing.T) {
	most, least := api.Wide{Hi: api.MaxHi, Lo: api.Base - 1}, api.Wide{Hi: -api.MaxHi}
	one, minus := wide.Of(1), wide.Of(-1)
	for i, x := range []struct {
		l    []api.Wide
		want api.Wide
		err  api.Errno
	}{
		{nil, api.Wide{}, api.OK},
		{[]api.Wide{most}, most, api.OK},
		{[]api.Wide{least}, least, api.OK},
		{[]api.Wide{wide.Of(5), wide.Of(-7), wide.Of(11)}, wide.Of(9), api.OK},
		{[]api.Wide{most, minus, one}, most, api.OK},
		{[]api.Wide{most, one, minus}, api.Wide{}, api.ErrWide},
		{[]api.Wide{one, most, minus}, api.Wide{}, api.ErrWide},
		{[]api.Wide{least, one, minus}, least, api.OK},
		{[]api.Wide{least, minus, one}, api.Wide{}, api.ErrWide},
		{[]api.Wide{most, most, most, most}, api.Wide{}, api.ErrWide},
		{[]api.Wide{least, least, most, most}, api.Wide{}, api.ErrWide},
		{[]api.Wide{least, most, least, most}, api.Wide{Hi: 1, Lo: api.Base - 2}, api.OK},
	} {
		kept := slices.Clone(x.l)
		if s, e := wide.Add(x.l...); s != x.want || e != x.err || !slices.Equal(kept, x.l) {
			t.Errorf("%d: %+v, %d, want %+v, %d", i, s, e, x.want, x.err)
		}
	}
}

// P1.1: a wrong one anywhere in the row is told ahead of a sum that is too great.
func TestAddWrong(t *testing.T) {
	most := api.Wide{Hi: api.MaxHi, Lo: api.Base - 1}
	for _, a := range wrongs() {
		for _, l := range [][]api.Wide{{a}, {a, wide.Of(1)}, {wide.Of(1), a}, {most, most, a}, {a, most, most}, {most, most, a, most}} {
			if s, e := wide.Add(l...); s != (api.Wide{}) || e != api.ErrArg {
				t.Errorf("Add(%+v): %+v, %d", l, s, e)
			}
		}
	}
}

// P1.1: Neg.
func TestNeg(t *testing.T) {
	for _, a := range rights() {
		want, ok := rightOf(new(big.Int).Neg(number(a)))
		wantErr := api.OK
		if !ok {
			wantErr = api.ErrWide
		}
		if b, e := wide.Neg(a); b != want || e != wantErr {
			t.Errorf("Neg(%+v): %+v, %d, want %+v, %d", a, b, e, want, wantErr)
		}
	}
	for _, a := range wrongs() {
		if b, e := wide.Neg(a); b != (api.Wide{}) || e != api.ErrArg {
			t.Errorf("Neg(%+v): %+v, %d", a, b, e)
		}
	}
	if b, e := wide.Neg(api.Wide{Hi: api.MaxHi, Lo: 1}); b != (api.Wide{}) || e != api.ErrWide {
		t.Errorf("Neg: %+v, %d", b, e)
	}
}

// P1.2: Cmp goes by Hi, then by Lo, right or not.
func TestCmp(t *testing.T) {
	l := []api.Wide{
		{Hi: math.MinInt, Lo: math.MinInt}, {Hi: math.MinInt, Lo: math.MaxInt}, {Hi: -api.MaxHi - 1, Lo: 3}, {Hi: -api.MaxHi},
		{Hi: -1, Lo: 0}, {Hi: -1, Lo: api.Base - 1}, {Hi: -1, Lo: 2 * api.Base}, {Lo: -1}, {}, {Lo: 1}, {Lo: api.Base}, {Hi: 1, Lo: -5}, {Hi: 1},
		{Hi: api.MaxHi, Lo: api.Base - 1}, {Hi: api.MaxHi + 1}, {Hi: math.MaxInt, Lo: math.MinInt}, {Hi: math.MaxInt, Lo: math.MaxInt},
	}
	for i, a := range l {
		for j, b := range l {
			want := 0
			if i < j {
				want = -1
			}
			if i > j {
				want = 1
			}
			if c := wide.Cmp(a, b); c != want {
				t.Errorf("Cmp(%+v, %+v): %d, want %d", a, b, c, want)
			}
		}
	}
}

// P1.2: Int.
func TestInt(t *testing.T) {
	for _, n := range ints() {
		if m, e := wide.Int(wide.Of(n)); m != n || e != api.OK {
			t.Errorf("Int of %d: %d, %d", n, m, e)
		}
	}
	for _, a := range rights() {
		want, wantErr := 0, api.ErrWide
		if n := number(a); n.IsInt64() {
			want, wantErr = int(n.Int64()), api.OK
		}
		if n, e := wide.Int(a); n != want || e != wantErr {
			t.Errorf("Int(%+v): %d, %d, want %d, %d", a, n, e, want, wantErr)
		}
	}
	for _, a := range wrongs() {
		if n, e := wide.Int(a); n != 0 || e != api.ErrArg {
			t.Errorf("Int(%+v): %d, %d", a, n, e)
		}
	}
}

// P1.2: Int, next to the least and the greatest int.
func TestIntEdges(t *testing.T) {
	for _, x := range []struct {
		a   api.Wide
		n   int
		err api.Errno
	}{
		{api.Wide{Hi: 9, Lo: 223372036854775807}, math.MaxInt, api.OK},
		{api.Wide{Hi: 9, Lo: 223372036854775808}, 0, api.ErrWide},
		{api.Wide{Hi: 10}, 0, api.ErrWide},
		{api.Wide{Hi: -10, Lo: 776627963145224192}, math.MinInt, api.OK},
		{api.Wide{Hi: -10, Lo: 776627963145224191}, 0, api.ErrWide},
		{api.Wide{Hi: -11, Lo: api.Base - 1}, 0, api.ErrWide},
		{api.Wide{Hi: 1 << 46}, 0, api.ErrWide}, // Hi times Base is a multiple of 2 to the 64
		{api.Wide{Hi: -1 << 46, Lo: 5}, 0, api.ErrWide},
	} {
		if n, e := wide.Int(x.a); n != x.n || e != x.err {
			t.Errorf("Int(%+v): %d, %d, want %d, %d", x.a, n, e, x.n, x.err)
		}
	}
}

// P1.2: Div.
func TestDiv(t *testing.T) {
	for _, a := range rights() {
		for _, n := range []int{1, 2, 3, 7, 10, 65536, 999999937, 999999999, api.MaxDiv} {
			wantQ, wantLeft := new(big.Int).DivMod(number(a), big.NewInt(int64(n)), new(big.Int))
			want, _ := rightOf(wantQ)
			if q, left, e := wide.Div(a, n); q != want || int64(left) != wantLeft.Int64() || e != api.OK {
				t.Errorf("Div(%+v, %d): %+v, %d, %d", a, n, q, left, e)
			}
		}
		for _, n := range []int{0, -1, -2, api.MaxDiv + 1, api.Base, math.MinInt, math.MaxInt} {
			if q, left, e := wide.Div(a, n); q != (api.Wide{}) || left != 0 || e != api.ErrArg {
				t.Errorf("Div(%+v, %d): %+v, %d, %d", a, n, q, left, e)
			}
		}
	}
	for _, a := range wrongs() {
		if q, left, e := wide.Div(a, 3); q != (api.Wide{}) || left != 0 || e != api.ErrArg {
			t.Errorf("Div(%+v, 3): %+v, %d, %d", a, q, left, e)
		}
	}
	if q, left, e := wide.Div(wide.Of(-7), 2); q != wide.Of(-4) || left != 1 || e != api.OK {
		t.Errorf("Div(-7, 2): %+v, %d, %d", q, left, e)
	}
}

// P1.2: Text.
func TestText(t *testing.T) {
	for _, a := range rights() {
		if s := wide.Text(a); s != number(a).String() {
			t.Errorf("Text(%+v): %q, want %q", a, s, number(a))
		}
	}
	for _, a := range wrongs() {
		if s := wide.Text(a); s != "" {
			t.Errorf("Text(%+v): %q", a, s)
		}
	}
	for want, a := range map[string]api.Wide{
		"0": {}, "-1": {Hi: -1, Lo: api.Base - 1}, "7": {Lo: 7}, "1000000000000000000": {Hi: 1},
		"-100000000000000000000": {Hi: -100}, "1000000000000000007": {Hi: 1, Lo: 7}, "-1000000000000000001": {Hi: -2, Lo: api.Base - 1},
		"4000000000000000000999999999999999999": {Hi: api.MaxHi, Lo: api.Base - 1},
	} {
		if s := wide.Text(a); s != want {
			t.Errorf("Text(%+v): %q, want %q", a, s, want)
		}
	}
}

// P1.3: right Wides stand as their numbers.
func TestOrder(t *testing.T) {
	for _, a := range rights() {
		for _, b := range rights() {
			if wide.Cmp(a, b) != number(a).Cmp(number(b)) {
				t.Errorf("Cmp(%+v, %+v): %d", a, b, wide.Cmp(a, b))
			}
		}
	}
}

// P1.3: sums may be taken in any order, where there are such.
func TestAnyOrder(t *testing.T) {
	l := rights()
	for i, a := range l {
		b, c := l[(i*7+3)%len(l)], l[(i*11+5)%len(l)]
		rows := [][]api.Wide{{a, b, c}, {a, c, b}, {b, a, c}, {b, c, a}, {c, a, b}, {c, b, a}}
		var sums []api.Wide
		for _, r := range rows {
			if s, e := wide.Add(r...); e == api.OK {
				sums = append(sums, s)
			}
		}
		for _, s := range sums {
			if s != sums[0] || number(s).Cmp(new(big.Int).Add(number(a), new(big.Int).Add(number(b), number(c)))) != 0 {
				t.Errorf("%+v, %+v, %+v: %+v", a, b, c, sums)
			}
		}
	}
}

// P1.3: a number and its other side make 0.
func TestOtherSide(t *testing.T) {
	for _, a := range rights() {
		b, e := wide.Neg(a)
		if e != api.OK {
			continue
		}
		if s, e := wide.Add(a, b); s != (api.Wide{}) || e != api.OK {
			t.Errorf("%+v and %+v: %+v, %d", a, b, s, e)
		}
	}
}

// P1.3: n times the quotient, and what is left, are the number; asked by the program's own calls.
func TestBack(t *testing.T) {
	for _, n := range ints() {
		for _, by := range []int{1, 2, 3, 10, 999999937, api.MaxDiv} {
			q, left, _ := wide.Div(wide.Of(n), by)
			m, e := wide.Int(q)
			if e != api.OK || left < 0 || left >= by {
				t.Fatalf("%d by %d: %+v, %d", n, by, q, left)
			}
			if m < -api.Base || m > api.Base {
				continue
			}
			p, _ := wide.Mul(m, by)
			if s, e := wide.Add(p, wide.Of(left)); s != wide.Of(n) || e != api.OK {
				t.Errorf("%d by %d: %+v, %d", n, by, s, e)
			}
		}
	}
}
