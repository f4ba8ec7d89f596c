package hit_test

import (
	"math"
	"testing"

	"limewash/api"
	"limewash/hit"
	"limewash/sign"
)

const most = api.MaxSmall

type triangle = [3]api.V3

func v3(x, y, z int) api.V3 {
	return api.V3{X: x, Y: y, Z: z}
}

// first is the document's triangle.
func first() triangle {
	return triangle{v3(0, 0, 0), v3(4, 0, 0), v3(0, 4, 0)}
}

// great is a triangle as wide as small points allow, level at 0.
func great() triangle {
	return triangle{v3(-most, -most, 0), v3(most, -most, 0), v3(-most, most, 0)}
}

// rolls gives numbers that look like chance, the same at each run.
func rolls(seed uint64) func(n int) int {
	return func(n int) int {
		seed = seed*6364136223846793005 + 1442695040888963407
		return int((seed >> 33) % uint64(n))
	}
}

// spaces gives rows of n points whose parts are rolled; close ones make many that are level or the same.
func spaces(seed uint64, n, rows, greatest int) [][]api.V3 {
	roll := rolls(seed)
	var l [][]api.V3
	for i := range rows {
		reach := []int{1, 2, 9, greatest}[i%4]
		row := make([]api.V3, n)
		for k := range row {
			row[k] = v3(roll(2*reach+1)-reach, roll(2*reach+1)-reach, roll(2*reach+1)-reach)
		}
		l = append(l, row)
	}
	return l
}

// turned gives t in all orders of its points: first those that turn as t does.
func turned(t triangle) []triangle {
	return []triangle{t, {t[1], t[2], t[0]}, {t[2], t[0], t[1]}, {t[1], t[0], t[2]}, {t[0], t[2], t[1]}, {t[2], t[1], t[0]}}
}

// fars gives points that are not small: by one part, by two, or by all.
func fars() []api.V3 {
	var l []api.V3
	for _, n := range []int{-most - 1, most + 1, -2 * most, 2 * most, api.MaxPart, 1 << 32, 1<<32 + 1, -1 << 32, math.MinInt, math.MinInt + 1, math.MaxInt} {
		l = append(l, v3(n, 0, 0), v3(0, n, 0), v3(0, 0, n), v3(n, n, 1), v3(n, -1, n), v3(most, n, n), v3(n, n, n))
	}
	return l
}

// plus gives a and so many times b, part by part.
func plus(a api.V3, times int, b api.V3) api.V3 {
	return v3(a.X+times*b.X, a.Y+times*b.Y, a.Z+times*b.Z)
}

// less gives a less b, part by part.
func less(a, b api.V3) api.V3 {
	return plus(a, -1, b)
}

// det is the determinant of three ways, by its six products.
func det(p, q, r api.V3) int {
	return p.X*q.Y*r.Z + p.Y*q.Z*r.X + p.Z*q.X*r.Y - p.Z*q.Y*r.X - p.X*q.Z*r.Y - p.Y*q.X*r.Z
}

// plainSide is another reading of Side: by the ways from a to t's points.
func plainSide(a api.V3, t triangle) int {
	switch n := det(less(t[0], a), less(t[1], a), less(t[2], a)); {
	case n > 0:
		return -1
	case n < 0:
		return 1
	}
	return 0
}

// plainHit is another reading of Hit: how much of the way goes by up to t's plane, and how much of two edges leads there, by determinants.
func plainHit(a, b api.V3, t triangle) bool {
	p, q, back, from := less(t[1], t[0]), less(t[2], t[0]), less(a, b), less(a, t[0])
	all := det(p, q, back)
	way, u, v := det(p, q, from), det(from, q, back), det(p, from, back)
	if all < 0 {
		all, way, u, v = -all, -way, -u, -v
	}
	return way > 0 && way < all && u >= 0 && v >= 0 && u+v <= all
}

// checkHit holds Hit against what is wanted: by P12.3 both ways round, and of t in all orders.
func checkHit(t *testing.T, a, b api.V3, x triangle, want bool) {
	t.Helper()
	for _, y := range turned(x) {
		there, e := hit.Hit(a, b, y)
		back, f := hit.Hit(b, a, y)
		if there != want || back != want || e != api.OK || f != api.OK {
			t.Errorf("Hit of %+v by %+v to %+v: %t, %d, back %t, %d, want %t", y, a, b, there, e, back, f, want)
		}
	}
}

// P12.1: Side, spelt out: ahead, behind, level in and beside the triangle, triangles that are lines and points, and the greatest ones.
func TestSideTable(t *testing.T) {
	over := triangle{v3(-most, -most, -most), v3(most, most, -most), v3(most, most-1, most)}
	for _, x := range []struct {
		t    triangle
		a    api.V3
		want int
	}{
		{first(), v3(9, 9, -2), -1}, {first(), v3(1, 1, 1), 1}, {first(), v3(1, 1, -1), -1}, {first(), v3(1, 1, 0), 0}, {first(), v3(-7, 90, 0), 0}, {first(), v3(0, 0, 0), 0}, {first(), v3(most, most, 1), 1}, {first(), v3(-most, most, -most), -1},
		{triangle{v3(1, 0, 0), v3(0, 1, 0), v3(0, 0, 1)}, v3(0, 0, 0), -1}, {triangle{v3(1, 0, 0), v3(0, 1, 0), v3(0, 0, 1)}, v3(1, 1, 1), 1}, {triangle{v3(1, 0, 0), v3(0, 1, 0), v3(0, 0, 1)}, v3(5, -5, 1), 0},
		{triangle{v3(0, 0, 0), v3(0, 0, 1), v3(1, 0, 0)}, v3(3, 2, -1), 1}, {triangle{v3(0, 0, 0), v3(0, 0, 1), v3(1, 0, 0)}, v3(3, -2, -1), -1}, {triangle{v3(7, 0, 0), v3(7, 1, 0), v3(7, 0, 1)}, v3(8, 3, 3), 1}, {triangle{v3(7, 0, 0), v3(7, 1, 0), v3(7, 0, 1)}, v3(6, 3, 3), -1},
		{triangle{v3(0, 0, 0), v3(1, 1, 1), v3(2, 2, 2)}, v3(1, 1, -5), 0}, {triangle{v3(3, 4, 5), v3(3, 4, 5), v3(9, 9, 9)}, v3(1, 1, -5), 0}, {triangle{}, v3(1, 1, -5), 0},
		{over, v3(most, -most, most), 1}, {over, v3(-most, most, most), -1}, {over, v3(0, 0, -most), 0}, {over, v3(1, 1, -most+1), -1}, {over, v3(1, 0, -most), 1}, {great(), v3(most, most, most), 1}, {great(), v3(most, most, -most), -1},
	} {
		for i, y := range turned(x.t) {
			want := x.want
			if i >= 3 {
				want = -want
			}
			if n, e := hit.Side(x.a, y); n != want || e != api.OK {
				t.Errorf("Side(%+v, %+v): %d, %d, want %d", x.a, y, n, e, want)
			}
		}
	}
}

// P12.1: Side, held against another reading, and against Volume.
func TestSideMany(t *testing.T) {
	found := [3]int{}
	for _, p := range spaces(1, 4, 8000, most) {
		a, x := p[0], triangle(p[1:])
		want := plainSide(a, x)
		found[want+1]++
		n, e := hit.Side(a, x)
		if n != want || e != api.OK {
			t.Errorf("Side(%+v, %+v): %d, %d, want %d", a, x, n, e, want)
		}
		if v, _ := sign.Volume(x[0], x[1], x[2], a); v*n < 0 || (v == 0) != (n == 0) {
			t.Errorf("Side(%+v, %+v): %d, Volume %d", a, x, n, v)
		}
	}
	if min(found[0], found[1], found[2]) < 500 {
		t.Errorf("too few of one kind: %v", found)
	}
}

// P12.1: Side, if one is not small, whichever it is; beside an error all else is zero.
func TestSideWrong(t *testing.T) {
	for _, far := range fars() {
		for mask := 1; mask < 16; mask++ {
			p := [4]api.V3{v3(9, 9, -2), v3(0, 0, 0), v3(4, 0, 0), v3(0, 4, 0)}
			for i := range p {
				if mask>>i&1 == 1 {
					p[i] = far
				}
			}
			if n, e := hit.Side(p[0], triangle(p[1:])); n != 0 || e != api.ErrRange {
				t.Errorf("Side of %+v: %d, %d", p, n, e)
			}
		}
	}
}

// P12.2: Hit, spelt out, with the document's examples: inside, through the rim and corners and past them, ends that are level with the triangle or on one side of it.
func TestHitTable(t *testing.T) {
	for _, x := range []struct {
		a, b api.V3
		want bool
	}{
		{v3(1, 1, -1), v3(1, 1, 1), true}, {v3(1, 1, 1), v3(1, 1, 0), false}, {v3(0, 0, -1), v3(0, 0, 1), true}, {v3(5, 5, -1), v3(5, 5, 1), false},
		{v3(4, 0, -1), v3(4, 0, 1), true}, {v3(0, 4, -1), v3(0, 4, 1), true}, {v3(2, 0, -1), v3(2, 0, 1), true}, {v3(0, 2, -1), v3(0, 2, 1), true}, {v3(2, 2, -1), v3(2, 2, 1), true}, {v3(1, 3, -1), v3(1, 3, 7), true},
		{v3(5, 0, -1), v3(5, 0, 1), false}, {v3(0, 5, -1), v3(0, 5, 1), false}, {v3(-1, 0, -1), v3(-1, 0, 1), false}, {v3(0, -1, -1), v3(0, -1, 1), false}, {v3(2, -1, -1), v3(2, -1, 1), false}, {v3(-1, 2, -1), v3(-1, 2, 1), false}, {v3(3, 2, -1), v3(3, 2, 1), false}, {v3(5, -1, -1), v3(5, -1, 1), false},
		{v3(1, 1, 1), v3(1, 1, 2), false}, {v3(1, 1, -1), v3(1, 1, -2), false}, {v3(1, 1, 0), v3(1, 1, -9), false}, {v3(0, 0, 0), v3(0, 0, 9), false}, {v3(1, 1, 0), v3(1, 1, 0), false}, {v3(1, 1, 5), v3(1, 1, 5), false}, {v3(-1, 1, 0), v3(9, 1, 0), false}, {v3(0, 0, 0), v3(4, 0, 0), false},
		{v3(-1, -1, -1), v3(1, 1, 1), true}, {v3(4, 4, -4), v3(0, 0, 4), true}, {v3(-3, 1, -1), v3(9, 1, 1), true}, {v3(-3, 1, -1), v3(1, 1, 1), false}, {v3(-3, 1, -2), v3(1, 1, 1), false}, {v3(-3, 1, -3), v3(1, 1, 1), true}, {v3(9, 9, -3), v3(0, 0, 1), false}, {v3(9, 9, -9), v3(1, 1, 1), true},
		{v3(-most, -most, -most), v3(most, most, most), true}, {v3(1, 1, -most), v3(1, 1, most), true}, {v3(-most, -most, -most), v3(most, most, most-1), true}, {v3(-most, -most, -most+1), v3(most, most, most), false},
	} {
		checkHit(t, x.a, x.b, first(), x.want)
	}
}

// P12.2: Hit of triangles that are no more than lines or points: none is hit, wherever the way goes.
func TestHitFlat(t *testing.T) {
	for _, x := range []triangle{
		{v3(0, 0, 0), v3(1, 1, 1), v3(2, 2, 2)}, {v3(0, 0, 0), v3(1, 1, 1), v3(-2, -2, -2)}, {v3(1, 1, 1), v3(1, 1, 1), v3(1, 1, -1)}, {v3(1, 1, 0), v3(1, 1, 0), v3(1, 1, 0)}, {v3(-most, -most, -most), v3(0, 0, 0), v3(most, most, most)}, {},
	} {
		for _, w := range [][2]api.V3{{v3(1, 1, -5), v3(1, 1, 5)}, {v3(0, 0, -1), v3(0, 0, 1)}, {v3(-1, -1, -1), v3(3, 3, 3)}, {v3(2, 2, -2), v3(0, 0, 2)}, {v3(5, 0, 0), v3(0, 5, 0)}} {
			checkHit(t, w[0], w[1], x, false)
		}
	}
}

// P12.2: Hit of the greatest triangles: through their rims, and one step past them.
func TestHitGreat(t *testing.T) {
	slope := triangle{v3(-most, -most, -most), v3(most, most, -most), v3(most, most-1, most)}
	for _, x := range []struct {
		t    triangle
		a, b api.V3
		want bool
	}{
		{great(), v3(0, 0, -most), v3(0, 0, most), true}, {great(), v3(1, 0, -most), v3(1, 0, most), false}, {great(), v3(1, -1, -1), v3(1, -1, 1), true}, {great(), v3(most, -most, -1), v3(most, -most, most), true}, {great(), v3(most, 1-most, -1), v3(most, 1-most, most), false},
		{great(), v3(-most, -most, most), v3(-most, -most, -most), true}, {great(), v3(most, most, -most), v3(-most, -most, most), true}, {great(), v3(most, most, -most), v3(1-most, -most, most), false}, {great(), v3(most, most, -most), v3(-most, -most, most-1), true}, {great(), v3(most, most, 1-most), v3(-most, -most, most), false},
		{slope, v3(most, -most, most), v3(-most, most, most), false}, {slope, v3(most, -most, -most), v3(-most, most, -most), true}, {slope, v3(most, -most, 1-most), v3(-most, most, 1-most), true}, {slope, v3(most, most-1, 0), v3(most-1, most, 0), true}, {slope, v3(0, -1, 0), v3(0, 0, 0), true}, {slope, v3(0, -1, 0), v3(-1, 0, 0), false}, {slope, v3(1, -1, 0), v3(0, 0, 0), true}, {slope, v3(most, most-1, 0), v3(most, most, 0), true},
	} {
		checkHit(t, x.a, x.b, x.t, x.want)
		if plainHit(x.a, x.b, x.t) != x.want {
			t.Errorf("another reading of %+v by %+v to %+v: %t", x.t, x.a, x.b, !x.want)
		}
	}
}

// P12.2: Hit of all triangles with a corner in the middle of 27 points by all ways between these, held against another reading.
func TestHitAll(t *testing.T) {
	const places = 27
	place := func(n int) api.V3 { return v3(n/9-1, n/3%3-1, n%3-1) }
	hits := 0
	for m := range places * places {
		x := triangle{v3(0, 0, 0), place(m / places), place(m % places)}
		for n := range places * places {
			a, b := place(n/places), place(n%places)
			want := plainHit(a, b, x)
			if want {
				hits++
			}
			if ok, e := hit.Hit(a, b, x); ok != want || e != api.OK {
				t.Errorf("Hit of %+v by %+v to %+v: %t, %d, want %t", x, a, b, ok, e, want)
			}
		}
	}
	if hits < 10000 {
		t.Errorf("hits: %d", hits)
	}
}

// P12.2: Hit of rolled ones, held against another reading.
func TestHitMany(t *testing.T) {
	hits := [4]int{}
	for i, p := range spaces(2, 5, 40000, most) {
		a, b, x := p[0], p[1], triangle(p[2:])
		want := plainHit(a, b, x)
		if want {
			hits[i%4]++
		}
		if ok, e := hit.Hit(a, b, x); ok != want || e != api.OK {
			t.Errorf("Hit of %+v by %+v to %+v: %t, %d, want %t", x, a, b, ok, e, want)
		}
	}
	if min(hits[0], hits[1], hits[2], hits[3]) < 100 {
		t.Errorf("too few hits of one reach: %v", hits)
	}
}

// P12.2: Hit by ways that go through just where the rim is, or close by, held against another reading.
func TestHitRim(t *testing.T) {
	roll := rolls(3)
	hits, all := 0, 0
	for _, p := range spaces(3, 4, 8000, most/5) {
		// Twice the points, so that the middle of an edge is a point.
		x := triangle{plus(p[0], 1, p[0]), plus(p[1], 1, p[1]), plus(p[2], 1, p[2])}
		for _, at := range []api.V3{x[0], plus(p[0], 1, p[1]), plus(p[1], 1, p[2]), plus(p[2], 1, p[0])} {
			at = plus(at, roll(2), v3(roll(3)-1, roll(3)-1, roll(3)-1))
			a, b := plus(at, 1, p[3]), plus(at, -2, p[3])
			want := plainHit(a, b, x)
			all++
			if want {
				hits++
			}
			checkHit(t, a, b, x, want)
		}
	}
	if hits < all/4 || hits > all*3/4 {
		t.Errorf("hits: %d of %d", hits, all)
	}
}

// P12.2: Hit, if one is not small, whichever it is; beside an error all else is zero.
func TestHitWrong(t *testing.T) {
	for _, far := range fars() {
		for mask := 1; mask < 32; mask++ {
			p := [5]api.V3{v3(1, 1, -1), v3(1, 1, 1), v3(0, 0, 0), v3(4, 0, 0), v3(0, 4, 0)}
			for i := range p {
				if mask>>i&1 == 1 {
					p[i] = far
				}
			}
			if ok, e := hit.Hit(p[0], p[1], triangle(p[2:])); ok || e != api.ErrRange {
				t.Errorf("Hit of %+v: %t, %d", p, ok, e)
			}
		}
	}
	// Nothing that would decide without it hides one that is too far out.
	far := v3(0, 0, most+1)
	for _, x := range []struct {
		a, b api.V3
		t    triangle
	}{{v3(1, 1, 0), far, first()}, {far, v3(1, 1, 0), first()}, {v3(5, 5, 1), far, first()}, {v3(1, 1, 1), v3(1, 1, 1), triangle{far, far, far}}, {far, far, first()}, {v3(1, 1, -5), far, triangle{}}} {
		if ok, e := hit.Hit(x.a, x.b, x.t); ok || e != api.ErrRange {
			t.Errorf("Hit of %+v: %t, %d", x, ok, e)
		}
	}
}
