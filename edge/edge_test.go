package edge_test

import (
	"math"
	"slices"
	"strconv"
	"testing"

	"limewash/api"
	"limewash/edge"
)

// tri is a triangle of points alone.
func tri(a, b, c int) [3]api.Corner {
	return [3]api.Corner{{V: a, T: -1, N: -1}, {V: b, T: -1, N: -1}, {V: c, T: -1, N: -1}}
}

// of is a mesh of so many points, all of them at one place, and triangles.
func of(points int, l ...[3]api.Corner) api.Mesh {
	return api.Mesh{V: make([]api.V3, points), Tris: l}
}

// between is an edge.
func between(a, b int, tris ...int) api.Edge {
	return api.Edge{A: a, B: b, Tris: tris}
}

func isEdge(x, y api.Edge) bool {
	return x.A == y.A && x.B == y.B && slices.Equal(x.Tris, y.Tris)
}

func clone(m api.Mesh) api.Mesh {
	return api.Mesh{V: slices.Clone(m.V), T: slices.Clone(m.T), N: slices.Clone(m.N), Tris: slices.Clone(m.Tris)}
}

func same(a, b api.Mesh) bool {
	return slices.Equal(a.V, b.V) && slices.Equal(a.T, b.T) && slices.Equal(a.N, b.N) && slices.Equal(a.Tris, b.Tris)
}

func cloneEdges(l []api.Edge) []api.Edge {
	n := slices.Clone(l)
	for i := range n {
		n[i].Tris = slices.Clone(n[i].Tris)
	}
	return n
}

// known is a mesh, and all that is to be said of it.
type known struct {
	m     api.Mesh
	edges []api.Edge
	next  [][]int
	parts []int
}

// spelt gives meshes whose answers are written out, by what they try.
func spelt() map[string]known {
	return map[string]known{
		"nothing":     {},
		"no triangle": {m: of(9)},
		"one":         {of(3, tri(0, 1, 2)), []api.Edge{between(0, 1, 0), between(0, 2, 0), between(1, 2, 0)}, [][]int{nil}, []int{0}},
		"the document's": {of(7, tri(0, 1, 2), tri(2, 1, 3), tri(4, 5, 6)),
			[]api.Edge{between(0, 1, 0), between(0, 2, 0), between(1, 2, 0, 1), between(1, 3, 1), between(2, 3, 1), between(4, 5, 2), between(4, 6, 2), between(5, 6, 2)},
			[][]int{{1}, {0}, nil}, []int{0, 0, 2}},
		"a point in common is no edge": {of(5, tri(0, 1, 2), tri(2, 3, 4)),
			[]api.Edge{between(0, 1, 0), between(0, 2, 0), between(1, 2, 0), between(2, 3, 1), between(2, 4, 1), between(3, 4, 1)},
			[][]int{nil, nil}, []int{0, 1}},
		"the same points thrice, turned": {of(3, tri(0, 1, 2), tri(2, 1, 0), tri(1, 2, 0)),
			[]api.Edge{between(0, 1, 0, 1, 2), between(0, 2, 0, 1, 2), between(1, 2, 0, 1, 2)},
			[][]int{{1, 2}, {0, 2}, {0, 1}}, []int{0, 0, 0}},
		"flat ones have one edge, or none": {of(4, tri(0, 1, 0), tri(3, 3, 3), tri(1, 0, 0), tri(1, 1, 0), tri(2, 2, 3), tri(3, 3, 3)),
			[]api.Edge{between(0, 1, 0, 2, 3), between(2, 3, 4)},
			[][]int{{2, 3}, nil, {0, 3}, {0, 2}, nil, nil}, []int{0, 1, 0, 0, 4, 5}},
		"rising as numbers do": {of(101, tri(100, 9, 10), tri(9, 2, 100)),
			[]api.Edge{between(2, 9, 1), between(2, 100, 1), between(9, 10, 0), between(9, 100, 0, 1), between(10, 100, 0)},
			[][]int{{1}, {0}}, []int{0, 0}},
		"two edges that meet elsewhere": {of(5, tri(0, 1, 2), tri(1, 2, 3), tri(2, 0, 4), tri(0, 1, 3)),
			[]api.Edge{between(0, 1, 0, 3), between(0, 2, 0, 2), between(0, 3, 3), between(0, 4, 2), between(1, 2, 0, 1), between(1, 3, 1, 3), between(2, 3, 1), between(2, 4, 2)},
			[][]int{{1, 2, 3}, {0, 3}, {0}, {0, 1}}, []int{0, 0, 0, 0}},
		"the least one is reached through greater ones": {of(9, tri(0, 1, 2), tri(3, 4, 5), tri(6, 4, 3), tri(7, 3, 6), tri(7, 6, 1), tri(7, 1, 2), tri(0, 8, 4)),
			[]api.Edge{between(0, 1, 0), between(0, 2, 0), between(0, 4, 6), between(0, 8, 6), between(1, 2, 0, 5), between(1, 6, 4), between(1, 7, 4, 5), between(2, 7, 5), between(3, 4, 1, 2), between(3, 5, 1), between(3, 6, 2, 3), between(3, 7, 3), between(4, 5, 1), between(4, 6, 2), between(4, 8, 6), between(6, 7, 3, 4)},
			[][]int{{5}, {2}, {1, 3}, {2, 4}, {3, 5}, {0, 4}, nil}, []int{0, 0, 0, 0, 0, 0, 6}},
	}
}

// check holds all that a right mesh's triangles answer against what is wanted; by R2 the mesh stays as it is.
func check(t *testing.T, name string, x known) {
	t.Helper()
	before := clone(x.m)
	l, e := edge.Edges(x.m)
	if e != api.OK || !slices.EqualFunc(l, x.edges, isEdge) {
		t.Errorf("%s: Edges: %v, %d, want %v", name, l, e, x.edges)
	}
	p, e := edge.Parts(x.m)
	if e != api.OK || !slices.Equal(p, x.parts) {
		t.Errorf("%s: Parts: %v, %d, want %v", name, p, e, x.parts)
	}
	for i, want := range x.next {
		n, e := edge.Next(x.m, i)
		if e != api.OK || !slices.Equal(n, want) {
			t.Errorf("%s: Next of %d: %v, %d, want %v", name, i, n, e, want)
		}
	}
	if !same(x.m, before) {
		t.Errorf("%s: the mesh is changed", name)
	}
}

// P14.1, P14.2: meshes whose answers are written out.
func TestSpelt(t *testing.T) {
	for name, x := range spelt() {
		check(t, name, x)
	}
}

// P14.1, P14.2: edges hang on the corners' V alone: not on where the points are, nor on what else corners tell.
func TestPlacesAlone(t *testing.T) {
	for name, x := range spelt() {
		m := clone(x.m)
		for i := range m.V {
			m.V[i] = api.V3{X: i, Y: api.MaxPart - i, Z: -api.MaxPart}
		}
		m.T = []api.V2{{X: 1}, {X: api.MaxPart}, {Y: -api.MaxPart}}
		m.N = []api.V3{{X: 1}, {X: api.MaxPart}}
		for i := range m.Tris {
			for k := range m.Tris[i] {
				if i%2 == 0 {
					m.Tris[i][k].T = (i + k) % 3
				}
				if i%3 == 0 {
					m.Tris[i][k].N = k % 2
				}
			}
		}
		check(t, name+", with all else", known{m, x.edges, x.next, x.parts})
	}
}

// wrongs gives meshes that are not right, by what is wrong.
func wrongs() map[string]api.Mesh {
	l := map[string]api.Mesh{}
	turn := func(name string, f func(m *api.Mesh)) {
		m := of(4, tri(0, 1, 2), tri(2, 1, 3))
		m.T, m.N = make([]api.V2, 3), make([]api.V3, 2)
		f(&m)
		l[name] = m
	}
	for _, n := range []int{api.MaxPart + 1, -api.MaxPart - 1, math.MaxInt, math.MinInt} {
		is := " " + strconv.Itoa(n)
		turn("V"+is, func(m *api.Mesh) { m.V[3].Z = n })
		turn("T"+is, func(m *api.Mesh) { m.T[2].Y = n })
		turn("N"+is, func(m *api.Mesh) { m.N[1].X = n })
	}
	for i := range 3 {
		at := " of corner " + strconv.Itoa(i) + ": "
		for _, n := range []int{-1, -2, 4, 5, math.MaxInt, math.MinInt} {
			turn("place V"+at+strconv.Itoa(n), func(m *api.Mesh) { m.Tris[1][i].V = n })
		}
		for _, n := range []int{-2, 3, math.MaxInt, math.MinInt} {
			turn("place T"+at+strconv.Itoa(n), func(m *api.Mesh) { m.Tris[0][i].T = n })
			turn("place N"+at+strconv.Itoa(n), func(m *api.Mesh) { m.Tris[0][i].N = n })
		}
		turn("T alone"+at, func(m *api.Mesh) { m.Tris[0][i].T = 0 })
		turn("N alone"+at, func(m *api.Mesh) { m.Tris[1][i].N = 0 })
	}
	turn("2001 V", func(m *api.Mesh) { m.V = make([]api.V3, api.MaxVerts+1) })
	turn("2001 T", func(m *api.Mesh) { m.T = make([]api.V2, api.MaxVerts+1) })
	turn("2001 N", func(m *api.Mesh) { m.N = make([]api.V3, api.MaxVerts+1) })
	turn("501 Tris", func(m *api.Mesh) { m.Tris = slices.Repeat(m.Tris, api.MaxTris)[:api.MaxTris+1] })
	turn("no V", func(m *api.Mesh) { m.V = nil })
	return l
}

// P14.1, P14.2: a mesh that is not right has no answer, of whichever triangle.
func TestWrong(t *testing.T) {
	for name, m := range wrongs() {
		if l, e := edge.Edges(m); l != nil || e != api.ErrArg {
			t.Errorf("%s: Edges: %v, %d", name, l, e)
		}
		if p, e := edge.Parts(m); p != nil || e != api.ErrArg {
			t.Errorf("%s: Parts: %v, %d", name, p, e)
		}
		for _, i := range []int{0, 1, -1, 2, math.MaxInt, math.MinInt} {
			if n, e := edge.Next(m, i); n != nil || e != api.ErrArg {
				t.Errorf("%s: Next of %d: %v, %d", name, i, n, e)
			}
		}
	}
}

// P14.2: what is no place of a triangle has no answer.
func TestNextNone(t *testing.T) {
	for name, x := range spelt() {
		many := len(x.m.Tris)
		for _, i := range []int{-1, -2, many, many + 1, math.MaxInt, math.MinInt} {
			if n, e := edge.Next(x.m, i); n != nil || e != api.ErrArg {
				t.Errorf("%s: Next of %d: %v, %d", name, i, n, e)
			}
		}
	}
}

// odd gives edges that no mesh has, and that may be handed in all the same.
func odd() []api.Edge {
	return []api.Edge{
		between(5, 2, 7), between(2, 5, 8, 9), between(2, 5, 10), between(3, 3, 1), between(3, 4), between(4, 3, 6), between(-1, 4, -5),
		between(math.MaxInt, math.MinInt, math.MinInt), between(math.MinInt, math.MinInt, 1, 1), between(0, 0), {A: 7, B: 8, Tris: []int{}}, between(7, 8, 3),
	}
}

// P14.3: those with just one triangle, in order, of whatever is handed in.
func TestLoose(t *testing.T) {
	for _, x := range []struct{ l, want []api.Edge }{
		{nil, nil}, {[]api.Edge{}, nil}, {[]api.Edge{{}}, nil}, {[]api.Edge{between(0, 1, 2)}, []api.Edge{between(0, 1, 2)}}, {[]api.Edge{between(0, 1, 2, 3)}, nil}, {[]api.Edge{between(0, 1, 2, 2)}, nil}, {[]api.Edge{between(0, 1, 2, 3, 4)}, nil},
		{[]api.Edge{between(9, 1, 2), between(0, 1, 2), between(9, 1, 2)}, []api.Edge{between(9, 1, 2), between(0, 1, 2), between(9, 1, 2)}},
		{odd(), []api.Edge{between(5, 2, 7), between(2, 5, 10), between(3, 3, 1), between(4, 3, 6), between(-1, 4, -5), between(math.MaxInt, math.MinInt, math.MinInt), between(7, 8, 3)}},
	} {
		before := cloneEdges(x.l)
		if l := edge.Loose(x.l); !slices.EqualFunc(l, x.want, isEdge) {
			t.Errorf("Loose(%v): %v, want %v", x.l, l, x.want)
		}
		if !slices.EqualFunc(x.l, before, isEdge) {
			t.Errorf("Loose(%v): the row is changed into %v", before, x.l)
		}
	}
}

// P14.3: the first one of those places, in whichever order they are asked, and stand there; none, of others.
func TestFind(t *testing.T) {
	for _, x := range []struct {
		a, b int
		want api.Edge
		ok   bool
	}{
		{2, 5, between(5, 2, 7), true}, {3, 3, between(3, 3, 1), true}, {3, 4, between(3, 4), true}, {-1, 4, between(-1, 4, -5), true}, {math.MinInt, math.MaxInt, between(math.MaxInt, math.MinInt, math.MinInt), true}, {math.MinInt, math.MinInt, between(math.MinInt, math.MinInt, 1, 1), true}, {0, 0, between(0, 0), true}, {7, 8, between(7, 8), true},
		{2, 2, api.Edge{}, false}, {5, 5, api.Edge{}, false}, {4, 4, api.Edge{}, false}, {2, 3, api.Edge{}, false}, {5, 3, api.Edge{}, false}, {1, 4, api.Edge{}, false}, {-1, -1, api.Edge{}, false}, {math.MaxInt, math.MaxInt, api.Edge{}, false}, {0, 2, api.Edge{}, false}, {7, 7, api.Edge{}, false}, {8, 8, api.Edge{}, false}, {1, 9, api.Edge{}, false},
	} {
		for _, l := range [][]api.Edge{odd(), nil} {
			want, ok := x.want, x.ok
			if l == nil {
				want, ok = api.Edge{}, false
			}
			before := cloneEdges(l)
			y, there := edge.Find(l, x.a, x.b)
			z, back := edge.Find(l, x.b, x.a)
			if !isEdge(y, want) || there != ok || !isEdge(z, want) || back != ok || !ok && (y.Tris != nil || z.Tris != nil) {
				t.Errorf("Find of %d and %d: %v, %t, back %v, %t, want %v, %t", x.a, x.b, y, there, z, back, want, ok)
			}
			if !slices.EqualFunc(l, before, isEdge) {
				t.Errorf("Find of %d and %d: the row is changed", x.a, x.b)
			}
		}
	}
}
