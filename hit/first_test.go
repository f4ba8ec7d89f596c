package hit_test

import (
	"slices"
	"testing"

	"limewash/api"
	"limewash/hit"
)

// level gives the document's triangle, so high.
func level(z int) triangle {
	return triangle{v3(0, 0, z), v3(4, 0, z), v3(0, 4, z)}
}

// checkFirst holds First against what is wanted; by R2 the row stays as it is.
func checkFirst(t *testing.T, a, b api.V3, l []triangle, place int, found bool, want api.Errno) {
	t.Helper()
	before := slices.Clone(l)
	i, ok, e := hit.First(a, b, l...)
	if i != place || ok != found || e != want {
		t.Errorf("First of %+v by %+v to %+v: %d, %t, %d, want %d, %t, %d", l, a, b, i, ok, e, place, found, want)
	}
	if !slices.Equal(l, before) {
		t.Errorf("First of %+v: the row is changed into %+v", before, l)
	}
}

// P12.2: First, spelt out: of none, of one, of several that are hit (the first one of the row, not of the way), and of lines among them.
func TestFirstTable(t *testing.T) {
	a, b, line := v3(1, 1, -9), v3(1, 1, 9), triangle{v3(1, 1, -1), v3(1, 1, 0), v3(1, 1, 1)}
	for _, x := range []struct {
		l     []triangle
		place int
		found bool
	}{
		{nil, 0, false}, {[]triangle{}, 0, false}, {[]triangle{first()}, 0, true}, {[]triangle{line}, 0, false}, {[]triangle{level(9)}, 0, false}, {[]triangle{level(-9), level(10), line}, 0, false},
		{[]triangle{line, first()}, 1, true}, {[]triangle{level(5), level(-5)}, 0, true}, {[]triangle{level(-5), level(5)}, 0, true}, {[]triangle{line, level(9), level(5), first(), first()}, 2, true}, {[]triangle{first(), line}, 0, true}, {[]triangle{first(), first()}, 0, true},
	} {
		checkFirst(t, a, b, x.l, x.place, x.found, api.OK)
		checkFirst(t, b, a, x.l, x.place, x.found, api.OK)
	}
	if i, ok, e := hit.First(a, b); i != 0 || ok || e != api.OK {
		t.Errorf("First of none: %d, %t, %d", i, ok, e)
	}
}

// P12.2: First of rolled rows, held against another reading of each triangle; the first one that is hit at each place of a row.
func TestFirstMany(t *testing.T) {
	roll := rolls(4)
	found := map[int]int{}
	for _, p := range spaces(5, 2+3*12, 8000, most) {
		var l []triangle
		for i := 2; i < len(p); i += 3 {
			l = append(l, triangle(p[i:i+3]))
		}
		l = l[:roll(len(l)+1)]
		place := slices.IndexFunc(l, func(x triangle) bool { return plainHit(p[0], p[1], x) })
		found[place]++
		checkFirst(t, p[0], p[1], l, max(place, 0), place >= 0, api.OK)
	}
	for place := -1; place < 8; place++ {
		if found[place] < 20 {
			t.Errorf("too few are first at %d: %d", place, found[place])
		}
	}
}

// P12.2: First, if one triangle is not small, wherever it stands: ahead of one that is hit, or behind it.
func TestFirstWrong(t *testing.T) {
	a, b := v3(1, 1, -9), v3(1, 1, 9)
	for _, far := range fars() {
		for k := range 3 {
			wrong := first()
			wrong[k] = far
			for _, l := range [][]triangle{{first(), first(), first()}, {level(9), level(-9)}, {level(9), first(), level(9)}, {}} {
				for i := range len(l) + 1 {
					checkFirst(t, a, b, slices.Insert(slices.Clone(l), i, wrong), 0, false, api.ErrRange)
				}
			}
		}
	}
}

// P12.2: First by a way that is not small: an error of each triangle, so there is none if there is no triangle.
func TestFirstFarWay(t *testing.T) {
	for _, far := range fars() {
		for _, w := range [][2]api.V3{{far, v3(1, 1, 9)}, {v3(1, 1, 9), far}, {far, far}} {
			checkFirst(t, w[0], w[1], []triangle{first()}, 0, false, api.ErrRange)
			checkFirst(t, w[0], w[1], []triangle{{}, level(3), first()}, 0, false, api.ErrRange)
			checkFirst(t, w[0], w[1], nil, 0, false, api.OK)
		}
	}
}
