package slab_test

import (
	"testing"

	"limewash/api"
	"limewash/slab"
)

// plainMeets is another reading of Meets: whether the way is in b at one of its ends, or where it comes to the plane of a face.
func plainMeets(a, c api.V3, b api.Box) bool {
	if plainHas(b, a) || plainHas(b, c) {
		return true
	}
	for axis := range 3 {
		way := part(c, axis) - part(a, axis)
		for _, face := range []int{part(b.Low, axis), part(b.High, axis)} {
			n, d := face-part(a, axis), way
			if d < 0 {
				n, d = -n, -d
			}
			if d > 0 && n >= 0 && n <= d && plainAt(a, c, b, n, d) {
				return true
			}
		}
	}
	return false
}

// plainAt tells whether b has the point n/d on the way from a to c, all d times as great.
func plainAt(a, c api.V3, b api.Box, n, d int) bool {
	for axis := range 3 {
		at := d*part(a, axis) + n*(part(c, axis)-part(a, axis))
		if at < d*part(b.Low, axis) || at > d*part(b.High, axis) {
			return false
		}
	}
	return true
}

// checkMeets holds Meets against what is wanted: by P13.3 both ways round.
func checkMeets(t *testing.T, a, c api.V3, b api.Box, want bool) {
	t.Helper()
	there, e := slab.Meets(a, c, b)
	back, f := slab.Meets(c, a, b)
	if there != want || back != want || e != api.OK || f != api.OK {
		t.Errorf("Meets of %+v by %+v to %+v: %t, %d, back %t, %d, want %t", b, a, c, there, e, back, f, want)
	}
}

// P13.2: Meets, spelt out, with the document's examples: through and past, level with a face, through an edge or a corner, ways that are a point or end ahead of the box.
func TestMeetsTable(t *testing.T) {
	for _, x := range []struct {
		a, c api.V3
		want bool
	}{
		{v3(-2, 0, 0), v3(9, 9, 9), true}, {v3(-1, 5, 2), v3(5, -1, 2), true}, {v3(5, 0, 0), v3(9, 9, 9), false}, {v3(-1, 3, 2), v3(2, 6, 2), true},
		{v3(2, 2, 2), v3(2, 2, 2), true}, {v3(4, 0, 4), v3(4, 0, 4), true}, {v3(5, 2, 2), v3(5, 2, 2), false}, {v3(2, -1, 2), v3(2, -1, 2), false}, {v3(1, 1, 1), v3(3, 2, 1), true}, {v3(2, 2, 2), v3(90, 80, 70), true},
		{v3(-9, 2, 2), v3(9, 2, 2), true}, {v3(2, -9, 2), v3(2, 9, 2), true}, {v3(2, 2, -9), v3(2, 2, 9), true}, {v3(-9, 2, 2), v3(-1, 2, 2), false}, {v3(2, 5, 2), v3(2, 9, 2), false}, {v3(2, 2, -9), v3(2, 2, 0), true}, {v3(4, 2, 2), v3(9, 2, 2), true},
		{v3(-9, 0, 2), v3(9, 0, 2), true}, {v3(-9, 4, 4), v3(9, 4, 4), true}, {v3(-9, 4, 5), v3(9, 4, 5), false}, {v3(-9, -1, 2), v3(9, -1, 2), false}, {v3(-9, 4, 0), v3(9, 4, 0), true}, {v3(4, 4, -9), v3(4, 4, 9), true}, {v3(4, 5, -9), v3(4, 5, 9), false},
		{v3(-1, 4, 2), v3(2, 7, 2), false}, {v3(-1, 3, 0), v3(1, 5, 0), true}, {v3(-1, 3, -1), v3(1, 5, 1), true}, {v3(-1, 3, 3), v3(1, 5, 5), true}, {v3(-1, 3, 4), v3(1, 5, 6), false}, {v3(-1, 3, -2), v3(1, 5, 0), false}, {v3(6, -2, 2), v3(-2, 6, 2), true}, {v3(9, 0, 2), v3(0, 9, 2), false}, {v3(8, 0, 0), v3(0, 8, 8), true}, {v3(8, 0, 0), v3(0, 8, 9), false}, {v3(9, 0, 0), v3(0, 8, 8), false},
		{v3(-1, -2, -3), v3(1, 2, 3), true}, {v3(-1, -2, -3), v3(0, 0, 0), true}, {v3(-3, -3, -3), v3(-1, -1, -1), false}, {v3(-3, -3, -3), v3(0, -1, -1), false}, {v3(5, 5, 5), v3(4, 4, 4), true}, {v3(5, 5, 5), v3(4, 4, 5), false}, {v3(-1, 2, 6), v3(6, 2, -1), true}, {v3(-1, 2, 9), v3(9, 2, 0), false},
		{v3(-most, -most, -most), v3(most, most, most), true}, {v3(-most, most, 0), v3(most, -most, 0), true}, {v3(-most, most, 0), v3(most, 1-most, 0), true}, {v3(-most, 9, 9), v3(most, -1, -1), true}, {v3(-most, 0, 0), v3(4, most, 0), false}, {v3(-most, 0, 0), v3(4, 4, 4), true}, {v3(-most, 9, 0), v3(most, 9, 0), false},
	} {
		checkMeets(t, x.a, x.c, cube(), x.want)
		if plainMeets(x.a, x.c, cube()) != x.want {
			t.Errorf("another reading of %+v to %+v: %t", x.a, x.c, !x.want)
		}
	}
}

// P13.2: Meets of boxes that have no more room than a face, an edge or a point.
func TestMeetsFlat(t *testing.T) {
	face, edge, spot := box(v3(0, 0, 2), v3(4, 4, 2)), box(v3(1, 0, 2), v3(1, 4, 2)), box(v3(1, 3, 2), v3(1, 3, 2))
	for _, x := range []struct {
		a, c             api.V3
		face, edge, spot bool
	}{
		{v3(1, 3, 0), v3(1, 3, 4), true, true, true}, {v3(0, 2, 1), v3(2, 4, 3), true, true, true}, {v3(0, 0, 0), v3(2, 6, 4), true, true, true}, {v3(0, 0, 0), v3(2, 7, 4), true, true, false}, {v3(0, 0, 0), v3(3, 6, 4), true, false, false}, {v3(0, 3, 2), v3(9, 3, 2), true, true, true}, {v3(2, 3, 2), v3(9, 3, 2), true, false, false}, {v3(1, -5, 2), v3(1, 9, 2), true, true, true}, {v3(1, -5, 2), v3(1, 2, 2), true, true, false}, {v3(1, 3, 3), v3(1, 3, 9), false, false, false}, {v3(1, 3, 2), v3(1, 3, 2), true, true, true}, {v3(5, 3, 2), v3(5, 3, 2), false, false, false}, {v3(0, 0, 3), v3(9, 9, 3), false, false, false},
	} {
		checkMeets(t, x.a, x.c, face, x.face)
		checkMeets(t, x.a, x.c, edge, x.edge)
		checkMeets(t, x.a, x.c, spot, x.spot)
	}
}

// P13.2: Meets at the greatest numbers there are: ways that graze an edge or a corner, and such as are off by the least that can be.
func TestMeetsGreat(t *testing.T) {
	low, high := v3(-most, -most, -most), v3(most, most, most)
	for _, x := range []struct {
		a, c api.V3
		b    api.Box
		want bool
	}{
		{low, high, great(), true}, {low, low, great(), true}, {high, high, box(high, high), true}, {low, high, box(high, high), true}, {low, high, box(low, low), true}, {low, v3(most, most, most-1), box(high, high), false}, {low, high, api.Box{}, true}, {low, v3(most, most, most-1), api.Box{}, false},
		// From -16384 to 16384 along X, to 16383 along Y: at X 16383 the fraction is 32767/32768, and Y is 1/32768 above 16382.
		{low, v3(most, most-1, 0), box(v3(most-1, -most, -most), v3(most, most-2, 0)), false}, {low, v3(most, most-1, 0), box(v3(most-1, -most, -most), v3(most, most-1, 0)), true}, {low, v3(most, most-1, 0), box(v3(most-2, -most, -most), v3(most, most-2, 0)), true},
		// The same at the other end: at X -16383 the fraction is 1/32768, and Y is 1/32768 below -16383.
		{low, v3(most, most-1, 0), box(v3(-most, 1-most, -most), v3(1-most, 2-most, 0)), false}, {low, v3(most, most-1, 0), box(v3(-most, 1-most, -most), v3(2-most, 2-most, 0)), true},
		// X comes to -1 at 16383/32767, and Y to -2 at 16382/32765: ahead of it by 1/1073610755.
		{low, v3(most-1, most-3, 0), box(v3(-1, -most, -most), v3(most, -2, 0)), false}, {low, v3(most-1, most-3, 0), box(v3(-2, -most, -most), v3(most, -2, 0)), true}, {low, v3(most-1, most-3, 0), box(v3(-1, -most, -most), v3(most, -1, 0)), true}, {low, v3(most-1, most-3, 0), box(v3(-most, -2, -most), v3(-1, most, 0)), true}, {low, v3(most-1, most-3, 0), box(v3(-most, -1, -most), v3(-1, most, 0)), false},
	} {
		checkMeets(t, x.a, x.c, x.b, x.want)
		if plainMeets(x.a, x.c, x.b) != x.want {
			t.Errorf("another reading of %+v by %+v to %+v: %t", x.b, x.a, x.c, !x.want)
		}
	}
}

// P13.2: Meets of some boxes by all ways among the points of a lattice around them, held against another reading.
func TestMeetsAll(t *testing.T) {
	const side, places = 6, 6 * 6 * 6
	place := func(n int) api.V3 { return v3(n/(side*side)-2, n/side%side-2, n%side-2) }
	for _, b := range []api.Box{{}, box(v3(0, 0, 0), v3(1, 1, 1)), box(v3(-1, 0, 0), v3(2, 1, 0)), box(v3(0, -1, 1), v3(0, 2, 1)), box(v3(-1, -1, -1), v3(1, 0, 2))} {
		meets := 0
		for m := range places {
			for n := range places {
				a, c := place(m), place(n)
				want := plainMeets(a, c, b)
				if want {
					meets++
				}
				if ok, e := slab.Meets(a, c, b); ok != want || e != api.OK {
					t.Errorf("Meets of %+v by %+v to %+v: %t, %d, want %t", b, a, c, ok, e, want)
				}
			}
		}
		if meets < 400 || meets > places*places*3/4 {
			t.Errorf("%+v is met %d times", b, meets)
		}
	}
}

// P13.2: Meets of rolled ones, held against another reading.
func TestMeetsMany(t *testing.T) {
	meets, all := [4]int{}, [4]int{}
	for i, p := range spaces(11, 4, 40000, most) {
		a, c, b := p[0], p[1], plainBox(p[2:])
		want := plainMeets(a, c, b)
		all[i%4]++
		if want {
			meets[i%4]++
		}
		if ok, e := slab.Meets(a, c, b); ok != want || e != api.OK {
			t.Errorf("Meets of %+v by %+v to %+v: %t, %d, want %t", b, a, c, ok, e, want)
		}
	}
	for i := range meets {
		if meets[i] < all[i]/10 || meets[i] > all[i]*9/10 {
			t.Errorf("meets: %v of %v", meets, all)
		}
	}
}

// P13.2: Meets of rolled boxes by ways through one of their corners, or close by it, held against another reading.
func TestMeetsRim(t *testing.T) {
	roll := rolls(12)
	meets, all := 0, 0
	for _, p := range spaces(13, 3, 40000, most/4) {
		b, way := plainBox(p[:2]), p[2]
		at := plus(corner(b, roll(8)), roll(2), v3(roll(3)-1, roll(3)-1, roll(3)-1))
		a, c := plus(at, 1+roll(2), way), plus(at, -roll(3), way)
		want := plainMeets(a, c, b)
		all++
		if want {
			meets++
		}
		checkMeets(t, a, c, b, want)
	}
	if meets < all/4 || meets > all*9/10 {
		t.Errorf("meets: %d of %d", meets, all)
	}
}

// P13.2: Meets, if an end is not small, or the box not right; ErrRange stands ahead of ErrArg, and beside an error all else is zero.
func TestMeetsWrong(t *testing.T) {
	for _, far := range fars() {
		for _, w := range [][2]api.V3{{far, v3(1, 1, 1)}, {v3(1, 1, 1), far}, {far, far}} {
			for _, b := range append(rights(), wrongs()[0], box(v3(1, 0, 0), v3(0, 0, 0)), box(far, far)) {
				if ok, e := slab.Meets(w[0], w[1], b); ok || e != api.ErrRange {
					t.Errorf("Meets of %+v by %+v to %+v: %t, %d", b, w[0], w[1], ok, e)
				}
			}
		}
	}
	for _, b := range wrongs() {
		for _, w := range [][2]api.V3{{{}, {}}, {v3(1, 1, 1), v3(2, 2, 2)}, {v3(-most, -most, -most), v3(most, most, most)}, {v3(-most, 0, 0), v3(-most, 0, 0)}, {v3(most, 9, -9), v3(0, 0, most)}} {
			if ok, e := slab.Meets(w[0], w[1], b); ok || e != api.ErrArg {
				t.Errorf("Meets of %+v by %+v to %+v: %t, %d", b, w[0], w[1], ok, e)
			}
		}
	}
}
