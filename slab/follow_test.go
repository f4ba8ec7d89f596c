package slab_test

import (
	"testing"

	"limewash/api"
	"limewash/hit"
	"limewash/sign"
	"limewash/slab"
)

// has tells, and says, whether b has all of l.
func has(t *testing.T, b api.Box, l ...api.V3) bool {
	t.Helper()
	for _, p := range l {
		if !slab.Has(b, p) {
			t.Errorf("Has(%+v, %+v): false", b, p)
			return false
		}
	}
	return true
}

// P13.3: a box of points has them, and none that is less does.
func TestBoxHas(t *testing.T) {
	roll := rolls(14)
	for _, p := range spaces(15, 12, 4000, most) {
		l := p[:1+roll(len(p))]
		b, e := slab.Of(l...)
		if e != api.OK || !slab.Is(b) || !has(t, b, l...) {
			t.Fatalf("Of(%+v): %+v, %d", l, b, e)
		}
		for axis := range 3 {
			up, down := box(with(b.Low, axis, part(b.Low, axis)+1), b.High), box(b.Low, with(b.High, axis, part(b.High, axis)-1))
			for _, less := range []api.Box{up, down} {
				all := true
				for _, q := range l {
					all = all && slab.Has(less, q)
				}
				if all {
					t.Errorf("Of(%+v): %+v, but %+v has all", l, b, less)
				}
			}
		}
	}
}

// P13.3: joined it has both: the corners of both, and the points in them; it is the box of all their points.
func TestJoinedHas(t *testing.T) {
	for _, p := range spaces(16, 9, 4000, most) {
		a, e := slab.Of(p[:4]...)
		b, f := slab.Of(p[4:]...)
		c, g := slab.Join(a, b)
		all, h := slab.Of(p...)
		if e != api.OK || f != api.OK || g != api.OK || h != api.OK || c != all {
			t.Fatalf("Join of %+v and %+v: %+v, %d, want %+v", a, b, c, g, all)
		}
		has(t, c, p...)
		for n := range 8 {
			has(t, c, corner(a, n), corner(b, n))
		}
	}
}

// P13.3: a way with an end in a box meets it, wherever it goes; so does one with a point between its ends in the box.
func TestEndIn(t *testing.T) {
	roll := rolls(17)
	for _, p := range spaces(18, 4, 20000, most/4) {
		b := plainBox(p[:2])
		at := v3(p[roll(2)].X, p[roll(2)].Y, p[roll(2)].Z)
		checkMeets(t, at, p[2], b, true)
		checkMeets(t, at, at, b, true)
		checkMeets(t, at, corner(great(), roll(8)), b, true)
		checkMeets(t, plus(at, 1, p[3]), plus(at, -1-roll(2), p[3]), b, true)
	}
}

// P13.3: both ways are one.
func TestBothWays(t *testing.T) {
	meets := 0
	for _, p := range spaces(19, 4, 20000, most) {
		b := plainBox(p[2:])
		want, e := slab.Meets(p[0], p[1], b)
		if want {
			meets++
		}
		back, f := slab.Meets(p[1], p[0], b)
		if back != want || e != api.OK || f != api.OK {
			t.Errorf("Meets of %+v by %+v to %+v: %t, %d, back %t, %d", b, p[0], p[1], want, e, back, f)
		}
	}
	if meets < 2000 {
		t.Errorf("meets: %d", meets)
	}
}

// P13.3: what meets a box meets a greater one.
func TestGreater(t *testing.T) {
	meets := 0
	for i, p := range spaces(20, 6, 20000, most) {
		b, more := plainBox(p[2:4]), plainBox(p[3+i%2:])
		if ok, _ := slab.Meets(p[0], p[1], b); !ok {
			continue
		}
		meets++
		greater, e := slab.Join(b, more)
		if e != api.OK {
			t.Fatalf("Join of %+v and %+v: %d", b, more, e)
		}
		checkMeets(t, p[0], p[1], greater, true)
		checkMeets(t, p[0], p[1], great(), true)
	}
	if meets < 2000 {
		t.Errorf("meets: %d", meets)
	}
}

// P13.3: what hits a triangle meets its box; of ways rolled, and of ways through a corner, or the middle of an edge, of the triangle.
func TestHitMeets(t *testing.T) {
	roll := rolls(21)
	hits := [2]int{}
	for _, p := range spaces(22, 5, 20000, most/8) {
		x := [3]api.V3{plus(p[0], 1, p[0]), plus(p[1], 1, p[1]), plus(p[2], 1, p[2])}
		b, e := slab.Of(x[:]...)
		if e != api.OK {
			t.Fatalf("Of(%+v): %d", x, e)
		}
		at := []api.V3{x[0], x[1], x[2], plus(p[0], 1, p[1]), plus(p[1], 1, p[2])}[roll(5)]
		for i, w := range [][2]api.V3{{plus(p[3], 1, p[3]), plus(p[4], 1, p[4])}, {plus(at, 1, p[3]), plus(at, -1-roll(3), p[3])}} {
			if !sign.Small3(w[0], w[1]) {
				t.Fatalf("%+v is not small", w)
			}
			if ok, _ := hit.Hit(w[0], w[1], x); ok {
				hits[i]++
				checkMeets(t, w[0], w[1], b, true)
			}
		}
	}
	if min(hits[0], hits[1]) < 500 {
		t.Errorf("hits: %v", hits)
	}
}
