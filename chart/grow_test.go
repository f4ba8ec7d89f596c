package chart_test

import (
	"math"
	"slices"
	"testing"

	"limewash/api"
	"limewash/chart"
)

// known is a mesh, and its charts.
type known struct {
	m      api.Mesh
	charts []api.Chart
}

// stairs is a mesh that goes up round one point: every eight triangles it comes over where it was.
func stairs(many int) api.Mesh {
	m := of([]api.V3{{}})
	const far = api.MaxUV
	around := [8]api.V2{{X: far}, {X: far, Y: far}, {Y: far}, {X: -far, Y: far}, {X: -far}, {X: -far, Y: -far}, {Y: -far}, {X: far, Y: -far}}
	for i := range many + 1 {
		p := around[i%8]
		m.V = append(m.V, at(p.X, p.Y, i))
	}
	for i := range many {
		m.Tris = append(m.Tris, tri(0, i+1, i+2))
	}
	return m
}

// cube is a mesh of twelve triangles that look out of a cube, its sides told in turn by their halves.
func cube() api.Mesh {
	return of(corner(),
		tri(0, 2, 1), tri(3, 5, 4), tri(0, 1, 3), tri(2, 4, 6), tri(0, 3, 2), tri(1, 6, 5),
		tri(6, 1, 2), tri(7, 4, 5), tri(5, 3, 1), tri(7, 6, 4), tri(4, 2, 3), tri(7, 5, 6))
}

// spelt gives meshes whose charts are written out, by what they try.
func spelt() map[string]known {
	v := corner()
	// A triangle with one at each of its sides, and one more behind the last of these.
	star := []api.V3{at(0, 0, 0), at(64, 0, 0), at(0, 64, 0), at(64, 64, 0), at(-64, 0, 0), at(0, -64, 0), at(64, -64, 0)}
	l := map[string]known{
		"nothing":                  {},
		"no triangle":              {m: of(v)},
		"one":                      {of(v, tri(1, 2, 3)), []api.Chart{group(0, 1, 0)}},
		"flat ones alone":          {m: of(v, tri(0, 0, 0), tri(0, 1, 1), tri(0, 1, 0))},
		"a square":                 {of(v, tri(0, 1, 2), tri(2, 1, 6)), []api.Chart{group(2, 1, 0, 1)}},
		"a square from below":      {of(v, tri(0, 2, 1), tri(2, 6, 1)), []api.Chart{group(2, -1, 0, 1)}},
		"a bent square":            {of(v, tri(0, 1, 2), tri(0, 2, 3)), []api.Chart{group(2, 1, 0), group(0, 1, 1)}},
		"one, and its other side":  {of(v, tri(0, 1, 2), tri(0, 2, 1)), []api.Chart{group(2, 1, 0), group(2, -1, 1)}},
		"one twice":                {of(v, tri(0, 1, 2), tri(1, 2, 0)), []api.Chart{group(2, 1, 0), group(2, 1, 1)}},
		"a point in common":        {of(star, tri(0, 1, 2), tri(0, 4, 5)), []api.Chart{group(2, 1, 0), group(2, 1, 1)}},
		"nothing in common":        {of(star, tri(0, 4, 5), tri(1, 3, 2)), []api.Chart{group(2, 1, 0), group(2, 1, 1)}},
		"the same edge, but apart": {of(append(star, at(64, 0, 0), at(0, 64, 0)), tri(0, 1, 2), tri(7, 3, 8)), []api.Chart{group(2, 1, 0), group(2, 1, 1)}},
		"flat ones between":        {of(star, tri(0, 1, 1), tri(0, 1, 2), tri(1, 1, 2), tri(1, 3, 2), tri(2, 2, 2)), []api.Chart{group(2, 1, 1, 3)}},
		"by a flat one alone":      {of(append(star, at(32, 32, 0)), tri(0, 1, 7), tri(1, 2, 7), tri(2, 1, 3)), []api.Chart{group(2, 1, 0), group(2, 1, 2)}},
		"the greatest":             {of([]api.V3{at(-4096, -4096, -4096), at(4096, -4096, -4096), at(4096, 4096, -4096), at(-4096, 4096, -4096)}, tri(0, 1, 2), tri(0, 2, 3)), []api.Chart{group(2, 1, 0, 1)}},
		"a cube":                   {cube(), []api.Chart{group(2, -1, 0, 6), group(2, 1, 1, 7), group(1, -1, 2, 8), group(1, 1, 3, 9), group(0, -1, 4, 10), group(0, 1, 5, 11)}},
		"stairs":                   {stairs(18), []api.Chart{group(2, 1, 0, 1, 2, 3, 4, 5, 6, 7), group(2, 1, 8, 9, 10, 11, 12, 13, 14, 15), group(2, 1, 16, 17)}},
		// From 0 on 2 is the only one, then 1 is less than 3 again.
		"the least one each time": {of(star, tri(0, 1, 2), tri(6, 1, 5), tri(0, 5, 1), tri(0, 4, 5)), []api.Chart{group(2, 1, 0, 2, 1, 3)}},
		// 1 begins between two that fit 0, and waits for them.
		"behind others": {of(star, tri(0, 4, 5), tri(2, 1, 3), tri(0, 1, 2), tri(0, 5, 1)), []api.Chart{group(2, 1, 0, 3, 2, 1)}},
		// 2 is next to 1, but lies over it, and over 0; so it begins a chart of its own, and 3 is in the first one already.
		"over the first ones": {of(append(star, at(16, 16, 32)), tri(0, 1, 2), tri(0, 5, 1), tri(1, 7, 5), tri(0, 4, 5)), []api.Chart{group(2, 1, 0, 1, 3), group(2, 1, 2)}},
	}
	// A page over another one at the same edge, then what is next to both: it goes with the first one.
	pages := []api.V3{at(0, 0, 0), at(0, 64, 0), at(64, 0, 0), at(64, 0, 9), at(-64, 0, 0), at(-64, 0, 9)}
	l["pages"] = known{of(pages, tri(0, 2, 1), tri(0, 3, 1), tri(0, 1, 4), tri(0, 1, 5)), []api.Chart{group(2, 1, 0, 2), group(2, 1, 1, 3)}}
	return l
}

// check holds a mesh's charts against what is wanted; by R2 the mesh and the charts stay as they are.
func check(t *testing.T, name string, x known) {
	t.Helper()
	before, kept := clone(x.m), cloneCharts(x.charts)
	l, e := chart.Grow(x.m)
	if e != api.OK || !slices.EqualFunc(l, x.charts, isChart) {
		t.Errorf("%s: Grow: %v, %d, want %v", name, l, e, x.charts)
	}
	if !chart.Is(x.m, x.charts) {
		t.Errorf("%s: Is, of %v, is false", name, x.charts)
	}
	if !same(x.m, before) || !slices.EqualFunc(x.charts, kept, isChart) {
		t.Errorf("%s: the mesh is turned into %v, or the charts into %v", name, x.m, x.charts)
	}
}

// P15.2, P15.3: meshes whose charts are written out.
func TestSpelt(t *testing.T) {
	for name, x := range spelt() {
		check(t, name, x)
	}
}

// P15.2: charts hang on the corners' V alone.
func TestPointsAlone(t *testing.T) {
	for name, x := range spelt() {
		x.m.T = []api.V2{{X: 1}, {X: api.MaxPart}, {Y: -api.MaxPart}}
		x.m.N = []api.V3{at(1, 0, 0), at(0, 0, -1)}
		for i := range x.m.Tris {
			for k := range x.m.Tris[i] {
				x.m.Tris[i][k].T, x.m.Tris[i][k].N = (i+k)%3, k%2
			}
		}
		check(t, name+", with all else", x)
	}
}

// P15.3: what are charts, though not those that are grown, and what are none.
func TestIs(t *testing.T) {
	m := of([]api.V3{at(0, 0, 0), at(64, 0, 0), at(0, 64, 0), at(64, 64, 0), at(128, 0, 0), at(0, 0, 64), at(0, -64, 0)},
		tri(0, 1, 2), tri(1, 3, 2), tri(1, 4, 3), tri(0, 0, 1), tri(1, 0, 5), tri(1, 6, 0), tri(1, 0, 6))
	up, down := group(2, 1, 0, 1, 2), group(2, -1, 5)
	right := []api.Chart{group(2, 1, 0, 1, 2, 6), group(1, 1, 4), down}
	for i, x := range []struct {
		l    []api.Chart
		want bool
	}{
		{right, true}, {[]api.Chart{right[2], right[0], right[1]}, true}, {[]api.Chart{group(2, 1, 2, 1, 0, 6), right[1], down}, true}, {[]api.Chart{group(2, 1, 6, 0, 1, 2), right[1], down}, true}, {[]api.Chart{group(2, 1, 1, 0, 2, 6), right[1], down}, true},
		{[]api.Chart{group(2, 1, 0), group(2, 1, 1), group(2, 1, 2), group(2, 1, 6), right[1], down}, true}, {[]api.Chart{group(2, 1, 2), group(2, 1, 6, 0, 1), right[1], down}, true}, {[]api.Chart{up, group(2, 1, 6), right[1], down}, true},
		// Not next to those ahead.
		{[]api.Chart{group(2, 1, 0, 2, 1, 6), right[1], down}, false}, {[]api.Chart{group(2, 1, 6, 1, 0, 2), right[1], down}, false}, {[]api.Chart{group(2, 1, 0, 2), group(2, 1, 1), group(2, 1, 6), right[1], down}, false},
		// One is left out, or is there twice.
		{nil, false}, {right[:2], false}, {right[1:], false}, {[]api.Chart{up, right[1], down}, false}, {[]api.Chart{group(2, 1, 0, 1, 2, 6, 6), right[1], down}, false}, {[]api.Chart{group(2, 1, 0, 1, 2, 6, 0), right[1], down}, false}, {[]api.Chart{right[0], right[1], down, group(2, 1, 6)}, false}, {[]api.Chart{right[0], right[0], right[1], down}, false}, {[]api.Chart{right[0], right[1], down, down}, false},
		// A chart with nothing.
		{append(slices.Clone(right), api.Chart{}), false}, {append(slices.Clone(right), group(2, 1)), false}, {append([]api.Chart{group(1, 1)}, right...), false},
		// A facing that is not the triangles' own.
		{[]api.Chart{group(2, -1, 0, 1, 2, 6), right[1], down}, false}, {[]api.Chart{right[0], group(1, -1, 4), down}, false}, {[]api.Chart{right[0], group(0, 1, 4), down}, false}, {[]api.Chart{right[0], right[1], group(2, 1, 5)}, false}, {[]api.Chart{group(2, 1, 0, 1, 2, 6, 5), right[1]}, false}, {[]api.Chart{group(2, 1, 0, 1, 2, 6, 4), down}, false}, {[]api.Chart{group(0, 1, 0, 1, 2, 6), right[1], down}, false}, {[]api.Chart{group(math.MaxInt, math.MinInt, 0, 1, 2, 6), right[1], down}, false},
		// A flat triangle, and no triangle.
		{append(slices.Clone(right), group(2, 1, 3)), false}, {append(slices.Clone(right), group(0, 0, 3)), false}, {[]api.Chart{group(2, 1, 0, 1, 2, 6, 3), right[1], down}, false}, {[]api.Chart{group(2, 1, 0, 1, 2, 6, 7), right[1], down}, false}, {[]api.Chart{group(2, 1, 0, 1, 2, 6, -1), right[1], down}, false}, {append(slices.Clone(right), group(2, 1, math.MaxInt)), false}, {append(slices.Clone(right), group(2, 1, math.MinInt)), false},
	} {
		before, kept := clone(m), cloneCharts(x.l)
		if is := chart.Is(m, x.l); is != x.want {
			t.Errorf("%d: Is, of %v: %t", i, x.l, is)
		}
		if !same(m, before) || !slices.EqualFunc(x.l, kept, isChart) {
			t.Errorf("%d: the mesh is turned into %v, or the charts into %v", i, m, x.l)
		}
	}
}

// P15.3: what hides something of one ahead of it is in no right chart with it; apart they are right.
func TestIsHidden(t *testing.T) {
	x := spelt()["pages"]
	for _, l := range [][]api.Chart{{group(2, 1, 0, 3), group(2, 1, 1, 2)}, {group(2, 1, 2, 1), group(2, 1, 3, 0)}, {group(2, 1, 0), group(2, 1, 1), group(2, 1, 2), group(2, 1, 3)}, {group(2, 1, 3), group(2, 1, 0, 2), group(2, 1, 1)}} {
		if !chart.Is(x.m, l) {
			t.Errorf("Is, of %v, is false", l)
		}
	}
	for _, l := range [][]api.Chart{{group(2, 1, 0, 1), group(2, 1, 2, 3)}, {group(2, 1, 0, 2, 1), group(2, 1, 3)}, {group(2, 1, 0, 2, 1, 3)}, {group(2, 1, 2, 0, 3), group(2, 1, 1)}} {
		if chart.Is(x.m, l) {
			t.Errorf("Is, of %v, is true", l)
		}
	}
	if !chart.Is(api.Mesh{}, nil) || chart.Is(api.Mesh{}, []api.Chart{{}}) || chart.Is(api.Mesh{}, []api.Chart{group(0, 0, 0)}) {
		t.Error("Is, of a mesh that has nothing")
	}
}
