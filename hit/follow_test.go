package hit_test

import (
	"testing"

	"limewash/api"
	"limewash/hit"
	"limewash/sign"
)

// P12.3: both ways are one, and turned round a triangle is hit as before; Side turns with it.
func TestTurned(t *testing.T) {
	for _, p := range spaces(6, 5, 8000, most) {
		a, b, x := p[0], p[1], triangle(p[2:])
		want, _ := hit.Hit(a, b, x)
		checkHit(t, a, b, x, want)
		n, _ := hit.Side(a, x)
		for i, y := range turned(x) {
			m, e := hit.Side(a, y)
			if i >= 3 {
				m = -m
			}
			if m != n || e != api.OK {
				t.Errorf("Side(%+v, %+v): %d, of %+v: %d, %d", a, x, n, y, m, e)
			}
		}
	}
}

// ahead gives a with its part along an axis set to n.
func ahead(a api.V3, axis, n int) api.V3 {
	switch axis {
	case 0:
		a.X = n
	case 1:
		a.Y = n
	default:
		a.Z = n
	}
	return a
}

// part gives a's part along an axis.
func part(a api.V3, axis int) int {
	return [3]int{a.X, a.Y, a.Z}[axis]
}

// P12.3: a way that stays on one side of all of a triangle's points, along an axis, does not hit, however close by it stays.
func TestBeside(t *testing.T) {
	roll := rolls(7)
	for _, p := range spaces(7, 5, 8000, most-20) {
		a, b, x := p[0], p[1], triangle(p[2:])
		for axis := range 3 {
			low := min(part(x[0], axis), part(x[1], axis), part(x[2], axis))
			high := max(part(x[0], axis), part(x[1], axis), part(x[2], axis))
			checkHit(t, ahead(a, axis, low-1-roll(3)), ahead(b, axis, low-1-roll(9)), x, false)
			checkHit(t, ahead(a, axis, high+1+roll(3)), ahead(b, axis, high+1+roll(9)), x, false)
		}
	}
}

// P12.3: a way that hits does not stay beyond a face of the box around what it hits; it can lie in that face.
func TestBox(t *testing.T) {
	hits := 0
	for _, p := range spaces(8, 5, 20000, most) {
		a, b, x := p[0], p[1], triangle(p[2:])
		if ok, _ := hit.Hit(a, b, x); !ok {
			continue
		}
		hits++
		for axis := range 3 {
			low := min(part(x[0], axis), part(x[1], axis), part(x[2], axis))
			high := max(part(x[0], axis), part(x[1], axis), part(x[2], axis))
			from, to := part(a, axis), part(b, axis)
			if min(from, to) > high || max(from, to) < low {
				t.Errorf("%+v is hit by %+v to %+v, which stays beside it along %d", x, a, b, axis)
			}
		}
	}
	if hits < 500 {
		t.Errorf("hits: %d", hits)
	}
}

// P12.3: a way to a point strictly inside, and on to behind it, hits; a longer way still does, and one that ends there does not.
func TestThrough(t *testing.T) {
	roll := rolls(9)
	through, longer := 0, 0
	for _, p := range spaces(9, 4, 12000, most/4) {
		at, u, v, way := p[0], p[1], p[2], p[3]
		// Its corners lie around at, which is in its middle.
		x := triangle{plus(at, 1, u), plus(at, 1, v), less(less(at, u), v)}
		a, b := plus(at, 1, way), plus(at, -1-roll(2), way)
		side, e := hit.Side(a, x)
		if side == 0 || e != api.OK || !sign.Small3(b) {
			continue
		}
		through++
		checkHit(t, a, b, x, true)
		checkHit(t, a, at, x, false)
		checkHit(t, at, b, x, false)
		for times := range 4 {
			from, to := plus(a, times, way), plus(b, -roll(4), way)
			if sign.Small3(from, to) {
				longer++
				checkHit(t, from, to, x, true)
			}
		}
	}
	if through < 3000 || longer < 6000 {
		t.Errorf("too few: %d, %d", through, longer)
	}
}

// P12.3: what is hit, wherever it is, stays hit by a longer way.
func TestLonger(t *testing.T) {
	longer := 0
	for _, p := range spaces(10, 5, 20000, most/2) {
		a, b, x := p[0], p[1], triangle(p[2:])
		if ok, _ := hit.Hit(a, b, x); !ok {
			continue
		}
		way := less(b, a)
		for _, w := range [][2]api.V3{{a, plus(b, 1, way)}, {plus(a, -1, way), b}, {plus(a, -1, way), plus(b, 1, way)}, {plus(a, -3, way), plus(b, 5, way)}} {
			if sign.Small3(w[0], w[1]) {
				longer++
				checkHit(t, w[0], w[1], x, true)
			}
		}
	}
	if longer < 2000 {
		t.Errorf("too few: %d", longer)
	}
}
