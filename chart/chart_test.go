package chart_test

import (
	"math"
	"slices"
	"strconv"
	"testing"

	"limewash/api"
	"limewash/chart"
)

// tri is a triangle of points alone.
func tri(a, b, c int) [3]api.Corner {
	return [3]api.Corner{{V: a, T: -1, N: -1}, {V: b, T: -1, N: -1}, {V: c, T: -1, N: -1}}
}

// at is a point.
func at(x, y, z int) api.V3 {
	return api.V3{X: x, Y: y, Z: z}
}

// of is a mesh of points and triangles.
func of(v []api.V3, l ...[3]api.Corner) api.Mesh {
	return api.Mesh{V: v, Tris: l}
}

// group is a chart.
func group(axis, side int, tris ...int) api.Chart {
	return api.Chart{Axis: axis, Side: side, Tris: tris}
}

func isChart(x, y api.Chart) bool {
	return x.Axis == y.Axis && x.Side == y.Side && slices.Equal(x.Tris, y.Tris)
}

func clone(m api.Mesh) api.Mesh {
	return api.Mesh{V: slices.Clone(m.V), T: slices.Clone(m.T), N: slices.Clone(m.N), Tris: slices.Clone(m.Tris)}
}

func same(a, b api.Mesh) bool {
	return slices.Equal(a.V, b.V) && slices.Equal(a.T, b.T) && slices.Equal(a.N, b.N) && slices.Equal(a.Tris, b.Tris)
}

func cloneCharts(l []api.Chart) []api.Chart {
	n := slices.Clone(l)
	for i := range n {
		n[i].Tris = slices.Clone(n[i].Tris)
	}
	return n
}

// corner is points of a cube's corner, the sides 64 long: 0 is the corner itself, 1 to 3 are along the axes, 4 to 6 across the faces, 7 is the far end.
func corner() []api.V3 {
	return []api.V3{{}, at(64, 0, 0), at(0, 64, 0), at(0, 0, 64), at(0, 64, 64), at(64, 0, 64), at(64, 64, 0), at(64, 64, 64)}
}

// P15.1: tame is what is right, and whose points are all within 4096.
func TestTame(t *testing.T) {
	m := of(corner(), tri(0, 1, 2))
	m.T, m.N = []api.V2{{X: api.MaxPart, Y: -api.MaxPart}}, []api.V3{at(api.MaxPart, -api.MaxPart, 0)}
	m.Tris[0][0].T, m.Tris[0][1].T, m.Tris[0][2].T = 0, 0, 0
	for _, x := range []api.Mesh{{}, of(corner()), m, of([]api.V3{at(4096, -4096, 4096), at(-4096, 4096, -4096)})} {
		if !chart.Tame(x) {
			t.Errorf("Tame(%v) is false", x)
		}
	}
	for _, n := range []int{4096, -4096} {
		for i := range m.V {
			for _, p := range []api.V3{at(n, 0, 0), at(0, n, 0), at(0, 0, n)} {
				x := clone(m)
				x.V[i] = p
				if !chart.Tame(x) {
					t.Errorf("Tame, of %v at place %d, is false", p, i)
				}
			}
		}
	}
	for name, x := range wrongs() {
		if chart.Tame(x) {
			t.Errorf("%s: Tame is true", name)
		}
	}
}

// wrongs gives meshes that are not tame, by what is wrong; each has two triangles of all four points.
func wrongs() map[string]api.Mesh {
	l := map[string]api.Mesh{}
	turn := func(name string, f func(m *api.Mesh)) {
		m := of(corner()[:4], tri(0, 1, 2), tri(2, 1, 3))
		m.T, m.N = make([]api.V2, 3), make([]api.V3, 2)
		f(&m)
		l[name] = m
	}
	for _, n := range []int{4097, -4097, api.MaxSmall, api.MaxPart, -api.MaxPart, api.MaxPart + 1, math.MaxInt, math.MinInt} {
		for i := range 4 {
			is := " of point " + strconv.Itoa(i) + ": " + strconv.Itoa(n)
			turn("X"+is, func(m *api.Mesh) { m.V[i].X = n })
			turn("Y"+is, func(m *api.Mesh) { m.V[i].Y = n })
			turn("Z"+is, func(m *api.Mesh) { m.V[i].Z = n })
		}
		turn("X of a point that no triangle has: "+strconv.Itoa(n), func(m *api.Mesh) { m.V = append(m.V, at(n, 0, 0)) })
	}
	for _, n := range []int{api.MaxPart + 1, -api.MaxPart - 1, math.MaxInt, math.MinInt} {
		turn("T "+strconv.Itoa(n), func(m *api.Mesh) { m.T[2].Y = n })
		turn("N "+strconv.Itoa(n), func(m *api.Mesh) { m.N[1].X = n })
	}
	for i := range 3 {
		of := " of corner " + strconv.Itoa(i) + ": "
		for _, n := range []int{-1, -2, 4, 5, math.MaxInt, math.MinInt} {
			turn("place V"+of+strconv.Itoa(n), func(m *api.Mesh) { m.Tris[1][i].V = n })
		}
		for _, n := range []int{-2, 3, math.MaxInt, math.MinInt} {
			turn("place T"+of+strconv.Itoa(n), func(m *api.Mesh) { m.Tris[0][i].T = n })
			turn("place N"+of+strconv.Itoa(n), func(m *api.Mesh) { m.Tris[0][i].N = n })
		}
		turn("T alone"+of, func(m *api.Mesh) { m.Tris[0][i].T = 0 })
		turn("N alone"+of, func(m *api.Mesh) { m.Tris[1][i].N = 0 })
	}
	turn("2001 V", func(m *api.Mesh) { m.V = append(m.V, make([]api.V3, api.MaxVerts-3)...) })
	turn("2001 T", func(m *api.Mesh) { m.T = make([]api.V2, api.MaxVerts+1) })
	turn("2001 N", func(m *api.Mesh) { m.N = make([]api.V3, api.MaxVerts+1) })
	turn("501 Tris", func(m *api.Mesh) { m.Tris = slices.Repeat(m.Tris, api.MaxTris)[:api.MaxTris+1] })
	turn("no V", func(m *api.Mesh) { m.V = nil })
	return l
}

// P15.1, P15.2, P15.3: a mesh that is not tame has no answer, of whichever triangle, axis or charts.
func TestWrong(t *testing.T) {
	for name, m := range wrongs() {
		for _, i := range []int{0, 1, -1, 2, math.MaxInt, math.MinInt} {
			if axis, side, ok := chart.Facing(m, i); axis != 0 || side != 0 || ok {
				t.Errorf("%s: Facing of %d: %d, %d, %t", name, i, axis, side, ok)
			}
			for axis := range 4 {
				if s, e := chart.Shadow(m, i, axis); s != ([3]api.V2{}) || e != api.ErrArg {
					t.Errorf("%s: Shadow of %d along %d: %v, %d", name, i, axis, s, e)
				}
			}
			for _, c := range []api.Chart{group(2, 1), group(0, 1), group(2, 1, 0), group(0, 1, 1), {}} {
				if chart.Fits(m, c, i) {
					t.Errorf("%s: Fits, of %d in %v", name, i, c)
				}
			}
		}
		if l, e := chart.Grow(m); l != nil || e != api.ErrArg {
			t.Errorf("%s: Grow: %v, %d", name, l, e)
		}
		for _, l := range [][]api.Chart{nil, {group(2, 1, 0), group(0, 1, 1)}, {{}}} {
			if chart.Is(m, l) {
				t.Errorf("%s: Is, of %v", name, l)
			}
		}
	}
}

// looked is a triangle of three points, and where it looks.
type looked struct {
	points     [3]api.V3
	axis, side int
	ok         bool
}

// P15.1: where triangles look: along each axis to each side, along the first one of several, and nowhere.
func TestFacing(t *testing.T) {
	const far = api.MaxUV
	o := api.V3{}
	for _, x := range []looked{
		{[3]api.V3{o, at(1, 0, 0), at(0, 1, 0)}, 2, 1, true}, {[3]api.V3{o, at(0, 1, 0), at(1, 0, 0)}, 2, -1, true},
		{[3]api.V3{o, at(0, 1, 0), at(0, 0, 1)}, 0, 1, true}, {[3]api.V3{o, at(0, 0, 1), at(0, 1, 0)}, 0, -1, true},
		{[3]api.V3{o, at(0, 0, 1), at(1, 0, 0)}, 1, 1, true}, {[3]api.V3{o, at(1, 0, 0), at(0, 0, 1)}, 1, -1, true},
		{[3]api.V3{at(1, 0, 0), at(0, 1, 0), at(0, 0, 1)}, 0, 1, true}, {[3]api.V3{at(1, 0, 0), at(0, 0, 1), at(0, 1, 0)}, 0, -1, true},
		{[3]api.V3{o, at(1, 0, 0), at(0, 1, 1)}, 1, -1, true}, {[3]api.V3{o, at(1, 0, 0), at(0, 1, -1)}, 1, 1, true}, {[3]api.V3{o, at(9, 0, 0), at(0, 9, -8)}, 2, 1, true}, {[3]api.V3{o, at(9, 0, 0), at(0, 8, -9)}, 1, 1, true},
		{[3]api.V3{at(-far, -far, far), at(far, -far, far), at(far, far, far)}, 2, 1, true}, {[3]api.V3{at(-far, -far, -far), at(far, far, far), at(far, -far, far)}, 0, 1, true}, {[3]api.V3{at(far, 0, 0), at(far, far, 1), at(far, -far, -far)}, 0, -1, true},
		{points: [3]api.V3{o, o, o}}, {points: [3]api.V3{o, o, at(1, 0, 0)}}, {points: [3]api.V3{at(1, 1, 1), o, at(1, 1, 1)}}, {points: [3]api.V3{o, at(1, 2, 3), at(2, 4, 6)}}, {points: [3]api.V3{at(-far, -far, far), o, at(far, far, -far)}},
	} {
		m := of(append([]api.V3{at(7, -7, 7)}, x.points[:]...), tri(0, 1, 2), tri(1, 2, 3), tri(2, 3, 1), tri(1, 3, 2))
		before := clone(m)
		for i, side := range []int{1: x.side, 2: x.side, 3: -x.side} {
			if i == 0 {
				continue
			}
			a, s, ok := chart.Facing(m, i)
			if a != x.axis || s != side || ok != x.ok {
				t.Errorf("Facing of %v, turned as %d: %d, %d, %t", x.points, i, a, s, ok)
			}
		}
		if !same(m, before) {
			t.Errorf("Facing turned the mesh into %v", m)
		}
	}
}

// P15.1: what is seen of a triangle along each axis, even of one that is flat; the parts stand in the order that Drop gives them.
func TestShadow(t *testing.T) {
	m := of([]api.V3{at(1, 2, 3), at(-4, 5, -6), at(4096, -4096, 9), at(1, 2, 3)}, tri(0, 1, 2), tri(2, 0, 1), tri(3, 3, 3))
	before := clone(m)
	for _, x := range []struct {
		i, axis int
		want    [3]api.V2
	}{
		{0, 0, [3]api.V2{{X: 2, Y: 3}, {X: 5, Y: -6}, {X: -4096, Y: 9}}},
		{0, 1, [3]api.V2{{X: 3, Y: 1}, {X: -6, Y: -4}, {X: 9, Y: 4096}}},
		{0, 2, [3]api.V2{{X: 1, Y: 2}, {X: -4, Y: 5}, {X: 4096, Y: -4096}}},
		{1, 0, [3]api.V2{{X: -4096, Y: 9}, {X: 2, Y: 3}, {X: 5, Y: -6}}},
		{1, 2, [3]api.V2{{X: 4096, Y: -4096}, {X: 1, Y: 2}, {X: -4, Y: 5}}},
		{2, 1, [3]api.V2{{X: 3, Y: 1}, {X: 3, Y: 1}, {X: 3, Y: 1}}},
	} {
		if s, e := chart.Shadow(m, x.i, x.axis); s != x.want || e != api.OK {
			t.Errorf("Shadow of %d along %d: %v, %d, want %v", x.i, x.axis, s, e, x.want)
		}
	}
	for _, n := range []int{-1, -2, 3, 4, math.MaxInt, math.MinInt} {
		for i := range 3 {
			if s, e := chart.Shadow(m, i, n); s != ([3]api.V2{}) || e != api.ErrArg {
				t.Errorf("Shadow of %d along %d: %v, %d", i, n, s, e)
			}
			if s, e := chart.Shadow(m, n, i); s != ([3]api.V2{}) || e != api.ErrArg {
				t.Errorf("Shadow of %d along %d: %v, %d", n, i, s, e)
			}
		}
		if axis, side, ok := chart.Facing(m, n); axis != 0 || side != 0 || ok {
			t.Errorf("Facing of %d: %d, %d, %t", n, axis, side, ok)
		}
	}
	if !same(m, before) {
		t.Errorf("the mesh is turned into %v", m)
	}
}

// grounds is a mesh in which each triangle is there for one question:
// 0 to 2 lie on the ground, 1 next to 0 and 2; 3 looks down; 4 stands upright at 0; 5 is flat, next to 0; 6 lies over 0, next to it; 7 shares a point alone with all; 8 has the same points as 1, told in another place.
func grounds() api.Mesh {
	v := []api.V3{at(0, 0, 0), at(64, 0, 0), at(0, 64, 0), at(64, 64, 0), at(128, 0, 0), at(0, 0, 64), at(64, 64, 9), at(-64, -64, 0), at(0, -64, 0), at(64, 0, 0), at(64, 64, 0), at(0, 64, 0)}
	return of(v, tri(0, 1, 2), tri(1, 3, 2), tri(1, 4, 3), tri(0, 1, 8), tri(1, 0, 5), tri(0, 1, 1), tri(0, 1, 6), tri(0, 7, 8), tri(9, 10, 11))
}

// P15.1: what fits which charts.
func TestFits(t *testing.T) {
	m := grounds()
	before := clone(m)
	for _, x := range []struct {
		c    api.Chart
		want []int
	}{
		{group(2, 1), []int{0, 1, 2, 6, 7, 8}}, {group(2, -1), []int{3}}, {group(1, 1), []int{4}}, {group(1, -1), nil}, {group(0, 1), nil}, {group(0, -1), nil}, {api.Chart{}, nil}, {group(2, 0), nil}, {group(2, 2), nil}, {group(3, 1), nil}, {group(-1, 1), nil}, {group(math.MaxInt, math.MinInt), nil},
		{group(2, 1, 0), []int{1}}, {group(2, 1, 1), []int{0, 2}}, {group(2, 1, 2), []int{1}}, {group(2, 1, 6), []int{}}, {group(2, 1, 7), nil}, {group(2, 1, 8), nil},
		{group(2, 1, 0, 1), []int{2}}, {group(2, 1, 0, 2), []int{1}}, {group(2, 1, 2, 0), []int{1}}, {group(2, 1, 0, 1, 2), nil}, {group(2, 1, 1, 8), []int{0, 2}}, {group(2, 1, 0, 8), nil}, {group(2, 1, 7, 1), []int{0, 2}}, {group(2, 1, 7, 0, 7), []int{1}},
		{group(2, 1, 6, 7), nil}, {group(2, 1, 0, 0), []int{1}}, {group(2, 1, 1, 1, 1), []int{0, 2}}, {group(2, 1, 0, 6), nil}, {group(2, 1, 2, 6), nil},
		// Charts with something that looks elsewhere, or nowhere, or is none.
		{group(2, -1, 0), nil}, {group(1, 1, 0), nil}, {group(2, 1, 4), nil}, {group(2, 1, 0, 4), nil}, {group(2, 1, 4, 0), nil}, {group(2, 1, 3), nil}, {group(2, 1, 5), nil}, {group(2, 1, 0, 5), nil}, {group(0, 0, 5), nil}, {group(2, 1, -1), nil}, {group(2, 1, 9), nil}, {group(2, 1, 0, 9), nil}, {group(2, 1, math.MaxInt, 0), nil}, {group(2, 1, 0, math.MinInt), nil},
		{group(2, -1, 3), nil}, {group(1, 1, 4), nil},
	} {
		kept := slices.Clone(x.c.Tris)
		for i := -2; i <= len(m.Tris)+1; i++ {
			if fits := chart.Fits(m, x.c, i); fits != slices.Contains(x.want, i) {
				t.Errorf("Fits, of %d in %v: %t", i, x.c, fits)
			}
		}
		if chart.Fits(m, x.c, math.MaxInt) || chart.Fits(m, x.c, math.MinInt) {
			t.Errorf("Fits, of no place in %v", x.c)
		}
		if !slices.Equal(x.c.Tris, kept) || !same(m, before) {
			t.Errorf("Fits turned the chart into %v, or the mesh into %v", x.c, m)
		}
	}
}
