package vec_test

import (
	"math"
	"math/big"
	"slices"
	"testing"

	"limewash/api"
	"limewash/vec"
)

const most = api.MaxPart

func v2(x, y int) api.V2 {
	return api.V2{X: x, Y: y}
}

func v3(x, y, z int) api.V3 {
	return api.V3{X: x, Y: y, Z: z}
}

// inside are parts that a near point may have: ordinary ones, and the edges.
func inside() []int {
	return []int{-most, 1 - most, -1000, -3, 0, 1, 2, 7, most - 1, most}
}

// outside are parts that no near point has.
func outside() []int {
	return []int{-most - 1, most + 1, -2 * most, 2 * most, 1 << 32, -1 << 32, 1<<32 + 1, math.MinInt, math.MinInt + 1, math.MaxInt}
}

// planes are near points in a plane: every two of inside.
func planes() []api.V2 {
	var l []api.V2
	for _, x := range inside() {
		for _, y := range inside() {
			l = append(l, v2(x, y))
		}
	}
	return l
}

// spaces are near points in space, with every one of some in every place.
func spaces() []api.V3 {
	some := []int{-most, -5, 0, 1, 3, most}
	l := []api.V3{v3(1, -2, 3), v3(4, 5, -6), v3(most-1, 1-most, 17), v3(-1, 1-most, most-1)}
	for _, x := range some {
		for _, y := range some {
			for _, z := range some {
				l = append(l, v3(x, y, z))
			}
		}
	}
	return l
}

// fars2 are points in a plane that are not near: by one part, or by both.
func fars2() []api.V2 {
	var l []api.V2
	for _, n := range outside() {
		l = append(l, v2(n, 0), v2(0, n), v2(n, most), v2(-most, n), v2(n, n))
	}
	return l
}

// fars3 are points in space that are not near: by one part, by two, or by all.
func fars3() []api.V3 {
	var l []api.V3
	for _, n := range outside() {
		l = append(l, v3(n, 0, 0), v3(0, n, 0), v3(0, 0, n), v3(n, n, 1), v3(n, -1, n), v3(most, n, n), v3(n, n, n))
	}
	return l
}

// products gives the sum of the products of every two that follow one another, and whether it is an int.
func products(n ...int) (int, bool) {
	sum := new(big.Int)
	for i := 0; i < len(n); i += 2 {
		sum.Add(sum, new(big.Int).Mul(big.NewInt(int64(n[i])), big.NewInt(int64(n[i+1]))))
	}
	return int(sum.Int64()), sum.IsInt64()
}

// P4.1: Is2 and Is3 of one.
func TestIsOne(t *testing.T) {
	for _, a := range planes() {
		if !vec.Is2(a) {
			t.Errorf("Is2(%+v): false", a)
		}
	}
	for _, a := range fars2() {
		if vec.Is2(a) {
			t.Errorf("Is2(%+v): true", a)
		}
	}
	for _, a := range spaces() {
		if !vec.Is3(a) {
			t.Errorf("Is3(%+v): false", a)
		}
	}
	for _, a := range fars3() {
		if vec.Is3(a) {
			t.Errorf("Is3(%+v): true", a)
		}
	}
}

// P4.1: Is2 and Is3 of none, of many, and of many of which one is not near, wherever it stands.
func TestIsMany(t *testing.T) {
	plane, space := planes(), spaces()
	if !vec.Is2() || !vec.Is3() || !vec.Is2([]api.V2{}...) || !vec.Is3([]api.V3{}...) {
		t.Error("of none: false")
	}
	if !vec.Is2(plane...) || !vec.Is3(space...) {
		t.Error("of many: false")
	}
	for i := range plane {
		if l := slices.Insert(slices.Clone(plane), i, v2(0, most+1)); vec.Is2(l...) {
			t.Errorf("Is2 with one at %d that is not near: true", i)
		}
	}
	for i := range space {
		if l := slices.Insert(slices.Clone(space), i, v3(0, 0, -most-1)); vec.Is3(l...) {
			t.Errorf("Is3 with one at %d that is not near: true", i)
		}
	}
	if vec.Is2(append(plane, v2(math.MinInt, 0))...) || vec.Is3(append(space, v3(math.MaxInt, 0, 0))...) {
		t.Error("the last one is not near: true")
	}
}

// R2: what is asked stays as it is.
func TestIsLeavesItsRow(t *testing.T) {
	plane, space := append(planes(), fars2()...), append(spaces(), fars3()...)
	vec.Is2(plane...)
	vec.Is3(space...)
	if !slices.Equal(plane, append(planes(), fars2()...)) || !slices.Equal(space, append(spaces(), fars3()...)) {
		t.Error("the row is changed")
	}
}

// P4.1: Sub2 and Sub3 of near ones, spelt out.
func TestSubTable(t *testing.T) {
	for _, x := range []struct{ a, b, want api.V3 }{
		{v3(1, -2, 3), v3(4, 5, -6), v3(-3, -7, 9)}, {v3(4, 5, -6), v3(1, -2, 3), v3(3, 7, -9)}, {v3(0, 0, 0), v3(1, 2, 3), v3(-1, -2, -3)},
		{v3(most, -most, 0), v3(-most, most, most), v3(2*most, -2*most, -most)}, {v3(7, 8, 9), v3(7, 8, 9), v3(0, 0, 0)},
	} {
		if got := vec.Sub3(x.a, x.b); got != x.want {
			t.Errorf("Sub3(%+v, %+v): %+v, want %+v", x.a, x.b, got, x.want)
		}
		if got := vec.Sub2(v2(x.a.X, x.a.Y), v2(x.b.X, x.b.Y)); got != v2(x.want.X, x.want.Y) {
			t.Errorf("Sub2(%+v, %+v): %+v, want X and Y of %+v", x.a, x.b, got, x.want)
		}
	}
}

// P4.1: Sub2 and Sub3 of all that are near, part by part.
func TestSubMany(t *testing.T) {
	for _, a := range planes() {
		for _, b := range planes() {
			if got := vec.Sub2(a, b); got.X != a.X-b.X || got.Y != a.Y-b.Y {
				t.Errorf("Sub2(%+v, %+v): %+v", a, b, got)
			}
		}
	}
	for _, a := range spaces() {
		for _, b := range spaces() {
			if got := vec.Sub3(a, b); got.X != a.X-b.X || got.Y != a.Y-b.Y || got.Z != a.Z-b.Z {
				t.Errorf("Sub3(%+v, %+v): %+v", a, b, got)
			}
		}
	}
}

// P4.1 and P4.2: in a plane, one that is not near, on either side.
func TestFar2(t *testing.T) {
	for _, far := range fars2() {
		for _, a := range []api.V2{v2(0, 0), v2(5, -6), v2(most, -most), far} {
			for _, x := range [][2]api.V2{{a, far}, {far, a}} {
				if got := vec.Sub2(x[0], x[1]); got != (api.V2{}) {
					t.Errorf("Sub2(%+v, %+v): %+v", x[0], x[1], got)
				}
				if n, e := vec.Cross2(x[0], x[1]); n != 0 || e != api.ErrRange {
					t.Errorf("Cross2(%+v, %+v): %d, %d", x[0], x[1], n, e)
				}
			}
		}
	}
}

// P4.1 and P4.2: in space, one that is not near, on either side; beside an error all else is zero.
func TestFar3(t *testing.T) {
	for _, far := range fars3() {
		for _, a := range []api.V3{v3(0, 0, 0), v3(5, -6, 7), v3(most, -most, most), far} {
			for _, x := range [][2]api.V3{{a, far}, {far, a}} {
				if got := vec.Sub3(x[0], x[1]); got != (api.V3{}) {
					t.Errorf("Sub3(%+v, %+v): %+v", x[0], x[1], got)
				}
				if n, e := vec.Dot(x[0], x[1]); n != 0 || e != api.ErrRange {
					t.Errorf("Dot(%+v, %+v): %d, %d", x[0], x[1], n, e)
				}
				if c, e := vec.Cross3(x[0], x[1]); c != (api.V3{}) || e != api.ErrRange {
					t.Errorf("Cross3(%+v, %+v): %+v, %d", x[0], x[1], c, e)
				}
			}
		}
	}
}

// P4.2: Dot and Cross3, spelt out.
func TestProductsTable(t *testing.T) {
	const square = most * most
	for _, x := range []struct {
		a, b  api.V3
		dot   int
		cross api.V3
	}{
		{v3(1, 0, 0), v3(0, 1, 0), 0, v3(0, 0, 1)}, {v3(0, 1, 0), v3(0, 0, 1), 0, v3(1, 0, 0)}, {v3(0, 0, 1), v3(1, 0, 0), 0, v3(0, 1, 0)},
		{v3(0, 1, 0), v3(1, 0, 0), 0, v3(0, 0, -1)}, {v3(1, 2, 3), v3(4, 5, 6), 32, v3(-3, 6, -3)}, {v3(1, -2, 3), v3(4, 5, -6), -24, v3(-3, 18, 13)},
		{v3(2, 3, 5), v3(2, 3, 5), 38, v3(0, 0, 0)}, {v3(2, 3, 5), v3(-4, -6, -10), -76, v3(0, 0, 0)}, {v3(0, 0, 0), v3(7, 8, 9), 0, v3(0, 0, 0)},
		{v3(most, most, most), v3(most, most, most), 3 * square, v3(0, 0, 0)}, {v3(most, -most, most), v3(-most, most, -most), -3 * square, v3(0, 0, 0)},
		{v3(most, most, -most), v3(-most, most, most), -square, v3(2*square, 0, 2*square)}, {v3(-most, most, 0), v3(-most, -most, 0), 0, v3(0, 0, 2*square)},
	} {
		if n, e := vec.Dot(x.a, x.b); n != x.dot || e != api.OK {
			t.Errorf("Dot(%+v, %+v): %d, %d, want %d", x.a, x.b, n, e, x.dot)
		}
		if c, e := vec.Cross3(x.a, x.b); c != x.cross || e != api.OK {
			t.Errorf("Cross3(%+v, %+v): %+v, %d, want %+v", x.a, x.b, c, e, x.cross)
		}
	}
}

// P4.2: Cross2, spelt out, and held against math/big.
func TestCross2(t *testing.T) {
	for _, x := range []struct {
		a, b api.V2
		want int
	}{
		{v2(1, 2), v2(3, 4), -2}, {v2(3, 4), v2(1, 2), 2}, {v2(1, 0), v2(0, 1), 1}, {v2(2, 3), v2(4, 6), 0}, {v2(0, 0), v2(5, 6), 0},
		{v2(most, -most), v2(most, most), 2 * most * most}, {v2(most, most), v2(most, -most), -2 * most * most},
	} {
		if n, e := vec.Cross2(x.a, x.b); n != x.want || e != api.OK {
			t.Errorf("Cross2(%+v, %+v): %d, %d, want %d", x.a, x.b, n, e, x.want)
		}
	}
	for _, a := range planes() {
		for _, b := range planes() {
			want, ok := products(a.X, b.Y, -a.Y, b.X)
			if n, e := vec.Cross2(a, b); !ok || n != want || e != api.OK {
				t.Errorf("Cross2(%+v, %+v): %d, %d, want %d", a, b, n, e, want)
			}
		}
	}
}

// P4.2: Dot and Cross3, held against math/big.
func TestProductsMany(t *testing.T) {
	for _, a := range spaces() {
		for _, b := range spaces() {
			want, ok := products(a.X, b.X, a.Y, b.Y, a.Z, b.Z)
			if n, e := vec.Dot(a, b); !ok || n != want || e != api.OK {
				t.Errorf("Dot(%+v, %+v): %d, %d, want %d", a, b, n, e, want)
			}
			x, _ := products(a.Y, b.Z, -a.Z, b.Y)
			y, _ := products(a.Z, b.X, -a.X, b.Z)
			z, _ := products(a.X, b.Y, -a.Y, b.X)
			if c, e := vec.Cross3(a, b); c != v3(x, y, z) || e != api.OK {
				t.Errorf("Cross3(%+v, %+v): %+v, %d, want %d %d %d", a, b, c, e, x, y, z)
			}
		}
	}
}

// P4.3: Axis, spelt out.
func TestAxisTable(t *testing.T) {
	for _, x := range []struct {
		a    api.V3
		want int
	}{
		{v3(3, -3, 2), 0}, {v3(-3, 3, 2), 0}, {v3(0, 0, 0), 0}, {v3(5, 5, 5), 0}, {v3(-5, 5, -5), 0}, {v3(4, 1, -4), 0}, {v3(9, 1, 2), 0}, {v3(-9, 8, 8), 0},
		{v3(1, -2, 2), 1}, {v3(1, 2, -2), 1}, {v3(0, 1, 1), 1}, {v3(0, -1, 0), 1}, {v3(8, -9, 8), 1},
		{v3(1, 2, -3), 2}, {v3(1, 2, 3), 2}, {v3(0, 0, -1), 2}, {v3(8, -8, 9), 2},
		{v3(math.MaxInt, math.MinInt, 0), 1}, {v3(math.MinInt, math.MaxInt, 0), 0}, {v3(math.MaxInt, math.MaxInt, math.MinInt), 2}, {v3(-math.MaxInt, math.MaxInt, 0), 0},
		{v3(math.MaxInt-1, -math.MaxInt, math.MaxInt), 1}, {v3(0, 0, math.MinInt), 2}, {v3(0, math.MinInt, math.MinInt), 1}, {v3(math.MinInt, math.MinInt, math.MinInt), 0},
		{v3(math.MinInt+1, 0, math.MinInt), 2}, {v3(1, 0, math.MinInt), 2},
	} {
		if n := vec.Axis(x.a); n != x.want {
			t.Errorf("Axis(%+v): %d, want %d", x.a, n, x.want)
		}
	}
}

// P4.3: Axis of all, near or not, held against math/big.
func TestAxisMany(t *testing.T) {
	for _, a := range append(spaces(), fars3()...) {
		want, farthest := 0, new(big.Int)
		for axis, n := range []int{a.X, a.Y, a.Z} {
			if size := new(big.Int).Abs(big.NewInt(int64(n))); size.Cmp(farthest) > 0 {
				want, farthest = axis, size
			}
		}
		if n := vec.Axis(a); n != want {
			t.Errorf("Axis(%+v): %d, want %d", a, n, want)
		}
	}
}

// P4.3: Drop of any, near or not, along each axis.
func TestDrop(t *testing.T) {
	for _, a := range append(spaces(), append(fars3(), v3(7, 8, 9), v3(math.MinInt, math.MaxInt, 1))...) {
		for axis, want := range []api.V2{v2(a.Y, a.Z), v2(a.Z, a.X), v2(a.X, a.Y)} {
			if p, e := vec.Drop(a, axis); p != want || e != api.OK {
				t.Errorf("Drop(%+v, %d): %+v, %d, want %+v", a, axis, p, e, want)
			}
		}
	}
}

// P4.3: Drop along an axis that there is not; beside an error all else is zero.
func TestDropWrong(t *testing.T) {
	for _, axis := range []int{-1, -2, -3, 3, 4, 5, 1 << 32, 1<<32 + 1, math.MinInt, math.MaxInt, math.MaxInt - 1} {
		for _, a := range []api.V3{v3(7, 8, 9), {}, v3(math.MaxInt, math.MinInt, most)} {
			if p, e := vec.Drop(a, axis); p != (api.V2{}) || e != api.ErrArg {
				t.Errorf("Drop(%+v, %d): %+v, %d", a, axis, p, e)
			}
		}
	}
}

// P4.1: Less3, spelt out.
func TestLess3Table(t *testing.T) {
	for _, x := range []struct{ a, b api.V3 }{
		{v3(1, 9, 9), v3(2, 0, 0)}, {v3(1, 1, 9), v3(1, 2, 0)}, {v3(1, 1, 1), v3(1, 1, 2)}, {v3(-1, 0, 0), v3(0, 0, 0)}, {v3(0, -1, 5), v3(0, 0, -5)}, {v3(0, 0, -1), v3(0, 0, 0)},
		{v3(-2, 0, 0), v3(1, 0, 0)}, {v3(math.MinInt, 0, 0), v3(math.MaxInt, 0, 0)}, {v3(0, math.MinInt, 1), v3(0, math.MaxInt, 0)}, {v3(5, 5, math.MinInt), v3(5, 5, math.MaxInt)},
		{v3(math.MinInt, math.MaxInt, math.MaxInt), v3(math.MinInt+1, math.MinInt, math.MinInt)},
	} {
		if !vec.Less3(x.a, x.b) || vec.Less3(x.b, x.a) || vec.Less3(x.a, x.a) || vec.Less3(x.b, x.b) {
			t.Errorf("Less3(%+v, %+v): %t, turned %t", x.a, x.b, vec.Less3(x.a, x.b), vec.Less3(x.b, x.a))
		}
	}
}

// P4.1: Less3 of any two, near or not.
func TestLess3Many(t *testing.T) {
	l := append(spaces(), fars3()...)
	for _, a := range l {
		for _, b := range l {
			want := a.X < b.X || a.X == b.X && (a.Y < b.Y || a.Y == b.Y && a.Z < b.Z)
			if got := vec.Less3(a, b); got != want {
				t.Errorf("Less3(%+v, %+v): %t", a, b, got)
			}
		}
	}
}

// P4.4: a cross product is square to both; its parts are too great for Dot, so math/big tells.
func TestSquareToBoth(t *testing.T) {
	for _, a := range spaces() {
		for _, b := range spaces() {
			c, _ := vec.Cross3(a, b)
			p, okP := products(c.X, a.X, c.Y, a.Y, c.Z, a.Z)
			q, okQ := products(c.X, b.X, c.Y, b.Y, c.Z, b.Z)
			if p != 0 || q != 0 || !okP || !okQ {
				t.Errorf("Cross3(%+v, %+v): %+v: %d, %d", a, b, c, p, q)
			}
		}
	}
}

// P4.4: these are small enough that Dot takes their cross product, and tells that it is square to both.
func TestSquareByDot(t *testing.T) {
	small := []int{-724, -3, 0, 1, 724}
	for _, x := range small {
		for _, y := range small {
			a, b := v3(x, y, 5), v3(y, -7, x)
			c, _ := vec.Cross3(a, b)
			for _, side := range []api.V3{a, b} {
				if n, e := vec.Dot(c, side); n != 0 || e != api.OK {
					t.Errorf("Dot(%+v, %+v): %d, %d", c, side, n, e)
				}
			}
		}
	}
}

// P4.4: when both change places, a cross product turns its side.
func TestTurnsItsSide(t *testing.T) {
	for _, a := range spaces() {
		for _, b := range spaces() {
			c, e := vec.Cross3(a, b)
			d, f := vec.Cross3(b, a)
			if d != v3(-c.X, -c.Y, -c.Z) || e != api.OK || f != api.OK {
				t.Errorf("Cross3(%+v, %+v): %+v, turned %+v", a, b, c, d)
			}
		}
	}
	for _, a := range planes() {
		for _, b := range planes() {
			n, e := vec.Cross2(a, b)
			m, f := vec.Cross2(b, a)
			if m != -n || e != api.OK || f != api.OK {
				t.Errorf("Cross2(%+v, %+v): %d, turned %d", a, b, n, m)
			}
		}
	}
}

// P4.4: Cross3 seen along an axis is Cross2 of both dropped.
func TestSeenAlongAnAxis(t *testing.T) {
	for _, a := range spaces() {
		for _, b := range spaces() {
			c, _ := vec.Cross3(a, b)
			for axis, want := range []int{c.X, c.Y, c.Z} {
				p, _ := vec.Drop(a, axis)
				q, _ := vec.Drop(b, axis)
				if n, e := vec.Cross2(p, q); n != want || e != api.OK {
					t.Errorf("along %d: Cross2(%+v, %+v): %d, %d, want %d", axis, p, q, n, e, want)
				}
			}
		}
	}
}
