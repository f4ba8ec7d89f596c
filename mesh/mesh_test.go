package mesh_test

import (
	"math"
	"reflect"
	"slices"
	"strconv"
	"testing"

	"limewash/api"
	"limewash/mesh"
)

const most = api.MaxPart

// rolls gives numbers that look like chance, the same at each run.
func rolls(seed uint64) func(n int) int {
	return func(n int) int {
		seed = seed*6364136223846793005 + 1442695040888963407
		return int((seed >> 33) % uint64(n))
	}
}

// c is a corner of a point alone.
func c(v int) api.Corner { return api.Corner{V: v, T: -1, N: -1} }

// tri is a triangle of points alone.
func tri(a, b, d int) [3]api.Corner { return [3]api.Corner{c(a), c(b), c(d)} }

// full is a triangle whose corners tell all three kinds.
func full(a, b, d api.Corner) [3]api.Corner { return [3]api.Corner{a, b, d} }

// square is a right mesh with something of everything.
func square() api.Mesh {
	return api.Mesh{
		V: []api.V3{{}, {X: 256}, {X: 256, Y: 256}, {Y: 256}},
		T: []api.V2{{}, {X: 256}, {Y: 128}},
		N: []api.V3{{Z: 256}, {Z: -256}},
		Tris: [][3]api.Corner{
			tri(0, 1, 2),
			{{V: 0, T: 0, N: -1}, {V: 2, T: 2, N: -1}, {V: 3, T: 1, N: -1}},
			{{V: 0, T: -1, N: 0}, {V: 2, T: -1, N: 1}, {V: 3, T: -1, N: 0}},
			{{V: 3, T: 2, N: 1}, {V: 2, T: 2, N: 1}, {V: 1, T: 0, N: 0}},
		},
	}
}

func clone(m api.Mesh) api.Mesh {
	return api.Mesh{V: slices.Clone(m.V), T: slices.Clone(m.T), N: slices.Clone(m.N), Tris: slices.Clone(m.Tris)}
}

func same(a, b api.Mesh) bool {
	return slices.Equal(a.V, b.V) && slices.Equal(a.T, b.T) && slices.Equal(a.N, b.N) && slices.Equal(a.Tris, b.Tris)
}

func isEmpty(m api.Mesh) bool { return same(m, api.Mesh{}) }

// wrongs gives meshes that are wrong in one thing each, by what that is.
func wrongs() map[string]api.Mesh {
	l := map[string]api.Mesh{}
	turn := func(name string, f func(m *api.Mesh)) {
		m := square()
		f(&m)
		l[name] = m
	}
	for _, n := range []int{most + 1, -most - 1, math.MaxInt, math.MinInt} {
		is := " " + strconv.Itoa(n)
		turn("V X"+is, func(m *api.Mesh) { m.V[3].X = n })
		turn("V Y"+is, func(m *api.Mesh) { m.V[0].Y = n })
		turn("V Z"+is, func(m *api.Mesh) { m.V[1].Z = n })
		turn("T X"+is, func(m *api.Mesh) { m.T[2].X = n })
		turn("T Y"+is, func(m *api.Mesh) { m.T[0].Y = n })
		turn("N X"+is, func(m *api.Mesh) { m.N[1].X = n })
		turn("N Y"+is, func(m *api.Mesh) { m.N[0].Y = n })
		turn("N Z"+is, func(m *api.Mesh) { m.N[1].Z = n })
	}
	for i := range 3 {
		at := " of corner " + strconv.Itoa(i) + ": "
		for _, n := range []int{-1, -2, 4, 5, math.MaxInt, math.MinInt} {
			turn("place V"+at+strconv.Itoa(n), func(m *api.Mesh) { m.Tris[0][i].V = n })
			turn("place V, told beside others,"+at+strconv.Itoa(n), func(m *api.Mesh) { m.Tris[3][i].V = n })
		}
		for _, n := range []int{-2, 3, 4, math.MaxInt, math.MinInt} {
			turn("place T"+at+strconv.Itoa(n), func(m *api.Mesh) { m.Tris[1][i].T = n })
		}
		for _, n := range []int{-2, 2, 3, math.MaxInt, math.MinInt} {
			turn("place N"+at+strconv.Itoa(n), func(m *api.Mesh) { m.Tris[2][i].N = n })
		}
		turn("T alone"+at, func(m *api.Mesh) { m.Tris[0][i].T = 0 })
		turn("N alone"+at, func(m *api.Mesh) { m.Tris[0][i].N = 0 })
		turn("no T"+at, func(m *api.Mesh) { m.Tris[3][i].T = -1 })
		turn("no N"+at, func(m *api.Mesh) { m.Tris[3][i].N = -1 })
		turn("other T"+at, func(m *api.Mesh) { m.Tris[2][i].T = 1 })
		turn("other N"+at, func(m *api.Mesh) { m.Tris[1][i].N = 1 })
	}
	turn("2001 V", func(m *api.Mesh) { m.V = append(m.V, make([]api.V3, api.MaxVerts-3)...) })
	turn("2001 T", func(m *api.Mesh) { m.T = append(m.T, make([]api.V2, api.MaxVerts-2)...) })
	turn("2001 N", func(m *api.Mesh) { m.N = append(m.N, make([]api.V3, api.MaxVerts-1)...) })
	turn("501 Tris", func(m *api.Mesh) { m.Tris = slices.Repeat(m.Tris, 126)[:api.MaxTris+1] })
	turn("no V", func(m *api.Mesh) { m.V = nil })
	turn("no T", func(m *api.Mesh) { m.T = nil })
	turn("no N", func(m *api.Mesh) { m.N = nil })
	return l
}

// greatest is a right mesh that has as much as it may.
func greatest() api.Mesh {
	m := square()
	for len(m.V) < api.MaxVerts {
		m.V = append(m.V, api.V3{X: most, Y: -most, Z: len(m.V)})
	}
	for len(m.T) < api.MaxVerts {
		m.T = append(m.T, api.V2{X: -most, Y: most})
	}
	for len(m.N) < api.MaxVerts {
		m.N = append(m.N, api.V3{X: -most, Y: most, Z: -most})
	}
	last := api.Corner{V: api.MaxVerts - 1, T: api.MaxVerts - 1, N: api.MaxVerts - 1}
	for len(m.Tris) < api.MaxTris {
		m.Tris = append(m.Tris, full(api.Corner{}, api.Corner{V: 1}, last))
	}
	return m
}

// P8.1: meshes that are right.
func TestIs(t *testing.T) {
	for name, m := range map[string]api.Mesh{
		"none":                 {},
		"empty lists":          {V: []api.V3{}, T: []api.V2{}, N: []api.V3{}, Tris: [][3]api.Corner{}},
		"square":               square(),
		"greatest":             greatest(),
		"no triangle":          {V: []api.V3{{}}, T: []api.V2{{}}, N: []api.V3{{}}},
		"T and N alone":        {T: []api.V2{{X: most, Y: -most}}, N: []api.V3{{X: -most, Y: most, Z: -most}}},
		"the same point twice": {V: []api.V3{{}}, Tris: [][3]api.Corner{tri(0, 0, 0)}},
		"a zero corner":        {V: []api.V3{{}}, T: []api.V2{{}}, N: []api.V3{{}}, Tris: [][3]api.Corner{{}}},
		"far but near":         {V: []api.V3{{X: most, Y: most, Z: most}, {X: -most, Y: -most, Z: -most}}, Tris: [][3]api.Corner{tri(1, 0, 1)}},
	} {
		if !mesh.Is(m) {
			t.Errorf("%s: not right", name)
		}
	}
}

// P8.1, P8.3: meshes that are wrong in one thing are wrong, can't be cleaned, and not be written.
func TestWrong(t *testing.T) {
	for name, m := range wrongs() {
		if mesh.Is(m) {
			t.Errorf("%s: right", name)
		}
		if n, gone, e := mesh.Clean(m); !isEmpty(n) || gone != 0 || e != api.ErrArg {
			t.Errorf("%s: Clean: %v, %d, %d", name, n, gone, e)
		}
		if s, e := mesh.Write(m); s != "" || e != api.ErrArg {
			t.Errorf("%s: Write: %q, %d", name, s, e)
		}
	}
}

// P8.1: triangles that are flat, and that are not.
func TestFlat(t *testing.T) {
	m := api.Mesh{V: []api.V3{
		{}, {X: 1}, {X: 2}, {Y: 1}, {Z: 1}, // 0 to 4
		{X: most}, {X: -most}, {Y: most}, // 5 to 7
		{X: most + 1}, {Y: -most - 1}, {Z: math.MinInt}, {X: math.MaxInt, Y: 7}, // 8 to 11: not near
		{X: -1, Y: -1, Z: -1}, {X: 1, Y: 1, Z: 1}, {X: most, Y: most, Z: most}, // 12 to 14
		{X: 1}, // 15: 1 once more
	}}
	for _, x := range []struct {
		a, b, d int
		want    bool
	}{
		{0, 1, 3, false}, {0, 3, 1, false}, {1, 3, 4, false}, {0, 1, 4, false}, {0, 3, 4, false}, {2, 1, 4, false},
		{0, 1, 2, true}, {2, 1, 0, true}, {1, 0, 2, true}, {12, 0, 13, true}, {0, 13, 14, true},
		{0, 0, 3, true}, {0, 3, 0, true}, {3, 0, 0, true}, {4, 4, 4, true}, {1, 15, 3, true}, {3, 1, 15, true}, {15, 3, 1, true},
		// Ways as long as may be; one longer.
		{0, 5, 7, false}, {7, 0, 5, false}, {0, 6, 7, false}, {0, 14, 5, false}, {5, 6, 7, true}, {6, 5, 7, true}, {6, 7, 5, true}, {1, 6, 7, true}, {1, 7, 6, true}, {6, 0, 7, false}, {6, 1, 7, true}, {7, 1, 6, false},
		// Points that are not near, at each corner.
		{8, 1, 3, true}, {0, 8, 3, true}, {0, 3, 8, true}, {9, 0, 1, true}, {0, 9, 1, true}, {0, 1, 9, true}, {10, 0, 1, true}, {0, 10, 1, true}, {0, 1, 10, true}, {11, 0, 3, true}, {3, 11, 1, true}, {3, 1, 11, true}, {8, 9, 10, true}, {11, 11, 11, true},
		// What is no place, at each corner.
		{-1, 1, 3, true}, {0, -1, 3, true}, {0, 1, -1, true}, {16, 1, 3, true}, {0, 16, 3, true}, {0, 1, 16, true}, {math.MaxInt, 1, 3, true}, {0, math.MinInt, 3, true}, {0, 1, math.MaxInt, true},
	} {
		if flat := mesh.Flat(m, tri(x.a, x.b, x.d)); flat != x.want {
			t.Errorf("Flat(%d, %d, %d): %t", x.a, x.b, x.d, flat)
		}
	}
	if !mesh.Flat(api.Mesh{}, [3]api.Corner{}) {
		t.Error("Flat of no points")
	}
}

// P8.1: whether a triangle is flat hangs on its points alone, not on the rest of the mesh, or on what else its corners tell.
func TestFlatAlone(t *testing.T) {
	for name, m := range wrongs() {
		if len(m.V) < 4 || !slices.Equal(m.V[:4], square().V) {
			continue
		}
		for _, x := range []api.Corner{{}, {T: -1, N: -1}, {T: 99, N: -99}, {T: math.MinInt, N: math.MaxInt}} {
			corner := func(v int) api.Corner { return api.Corner{V: v, T: x.T, N: x.N} }
			if mesh.Flat(m, full(corner(0), corner(1), corner(3))) || !mesh.Flat(m, full(corner(0), corner(1), corner(1))) {
				t.Errorf("%s: Flat, of corners like %+v", name, x)
			}
		}
	}
}

// plainFlat is Flat of places that there are, as the document says it, part by part.
func plainFlat(p, q, r api.V3) bool {
	isNear := func(l ...int) bool {
		return !slices.ContainsFunc(l, func(n int) bool { return n < -most || n > most })
	}
	if !isNear(p.X, p.Y, p.Z, q.X, q.Y, q.Z, r.X, r.Y, r.Z) {
		return true
	}
	a, b := api.V3{X: q.X - p.X, Y: q.Y - p.Y, Z: q.Z - p.Z}, api.V3{X: r.X - p.X, Y: r.Y - p.Y, Z: r.Z - p.Z}
	if !isNear(a.X, a.Y, a.Z, b.X, b.Y, b.Z) {
		return true
	}
	return a.Y*b.Z == a.Z*b.Y && a.Z*b.X == a.X*b.Z && a.X*b.Y == a.Y*b.X
}

// P8.1: many triangles are held against the plain way, among them such as are as far as may be.
func TestFlatPlain(t *testing.T) {
	roll := rolls(81)
	parts := [][]int{{0, 1}, {0, 1, 2, 3}, {-2, 0, 2, 5}, {0, most, -most, 1, -1}, {0, most, most + 1, -most, -most - 1, most / 2}, {0, most, math.MaxInt, math.MinInt, 3}}
	flat := 0
	for range 100000 {
		some := parts[roll(len(parts))]
		var p [3]api.V3
		for i := range p {
			p[i] = api.V3{X: some[roll(len(some))], Y: some[roll(len(some))], Z: some[roll(len(some))]}
		}
		want := plainFlat(p[0], p[1], p[2])
		if got := mesh.Flat(api.Mesh{V: p[:]}, tri(0, 1, 2)); got != want {
			t.Fatalf("Flat of %v: %t", p, got)
		}
		if want {
			flat++
		}
	}
	if flat < 1000 || flat > 99000 {
		t.Errorf("%d flat ones try little", flat)
	}
}

// P8.1: the flat ones go, the others stay in order, and so does all else.
func TestClean(t *testing.T) {
	m := square()
	m.V = append(m.V, api.V3{X: -most, Y: 1}, api.V3{X: most, Z: 1})
	kept := m.Tris
	m.Tris = [][3]api.Corner{
		tri(1, 1, 2), kept[0], tri(0, 0, 0), kept[1], kept[3], tri(4, 5, 0), kept[2], kept[0],
		{{V: 1, T: 0, N: 0}, {V: 0, T: 1, N: 0}, {V: 1, T: 2, N: 1}},
	}
	given := clone(m)
	n, gone, e := mesh.Clean(m)
	want := api.Mesh{V: m.V, T: m.T, N: m.N, Tris: [][3]api.Corner{kept[0], kept[1], kept[3], kept[2], kept[0]}}
	if !same(n, want) || gone != 4 || e != api.OK {
		t.Errorf("Clean: %+v, %d, %d", n, gone, e)
	}
	if !same(m, given) {
		t.Errorf("Clean turns its mesh: %+v", m)
	}
	for name, x := range map[string]struct {
		m    api.Mesh
		gone int
	}{
		"none": {api.Mesh{}, 0}, "square": {square(), 0},
		"greatest":        {greatest(), 0}, // the last point is off the line of the first two
		"flat ones alone": {api.Mesh{V: []api.V3{{}, {X: 5}}, Tris: [][3]api.Corner{tri(0, 1, 0), tri(1, 1, 1)}}, 2},
		"no triangle":     {api.Mesh{V: []api.V3{{X: 3}}, T: []api.V2{{X: 4}}, N: []api.V3{{X: 5}}}, 0},
	} {
		n, gone, e := mesh.Clean(x.m)
		if gone != x.gone || e != api.OK || len(n.Tris) != len(x.m.Tris)-gone || !slices.Equal(n.V, x.m.V) || !slices.Equal(n.T, x.m.T) || !slices.Equal(n.N, x.m.N) {
			t.Errorf("Clean of %s: %d triangles, %d gone, %d", name, len(n.Tris), gone, e)
		}
	}
}

// P8.4: cleaned twice is as cleaned once; no triangle of a clean mesh is flat; it is right.
func TestCleanTwice(t *testing.T) {
	roll := rolls(84)
	for range 500 {
		m := rolledMesh(roll)
		n, gone, e := mesh.Clean(m)
		if e != api.OK || len(n.Tris)+gone != len(m.Tris) || !mesh.Is(n) {
			t.Fatalf("Clean(%+v): %+v, %d, %d", m, n, gone, e)
		}
		again, more, e := mesh.Clean(n)
		if !same(again, n) || more != 0 || e != api.OK {
			t.Fatalf("Clean(%+v): %+v, %d, %d", n, again, more, e)
		}
		for _, x := range n.Tris {
			if mesh.Flat(n, x) {
				t.Fatalf("%v of %+v is flat", x, n)
			}
		}
		flat := 0
		for _, x := range m.Tris {
			if plainFlat(m.V[x[0].V], m.V[x[1].V], m.V[x[2].V]) {
				flat++
			}
		}
		if flat != gone {
			t.Fatalf("Clean(%+v): %d gone; want %d", m, gone, flat)
		}
	}
}

// rolledMesh gives some right mesh.
func rolledMesh(roll func(int) int) api.Mesh {
	far := []int{5, 600, 2*most + 1}[roll(3)]
	part := func() int { return roll(far) - far/2 }
	var m api.Mesh
	for range 1 + roll(8) {
		m.V = append(m.V, api.V3{X: part(), Y: part(), Z: part()})
	}
	for range roll(5) {
		m.T = append(m.T, api.V2{X: part(), Y: part()})
	}
	for range roll(5) {
		m.N = append(m.N, api.V3{X: part(), Y: part(), Z: part()})
	}
	for range roll(12) {
		places, normals := len(m.T) > 0 && roll(2) == 0, len(m.N) > 0 && roll(2) == 0
		var x [3]api.Corner
		for i := range x {
			x[i] = c(roll(len(m.V)))
			if places {
				x[i].T = roll(len(m.T))
			}
			if normals {
				x[i].N = roll(len(m.N))
			}
		}
		m.Tris = append(m.Tris, x)
	}
	return m
}

// R2, R1: what is given stays as it is, and no two lists share memory.
func TestMemory(t *testing.T) {
	m := square()
	given := clone(m)
	a, _, _ := mesh.Clean(m)
	b, _, _ := mesh.Clean(m)
	if _, e := mesh.Write(m); e != api.OK || !mesh.Is(m) || mesh.Flat(m, m.Tris[0]) || !same(m, given) {
		t.Errorf("a mesh is turned: %+v", m)
	}
	spoil(a)
	if !same(m, given) || !same(b, given) {
		t.Errorf("Clean shares: %+v, %+v", m, b)
	}
	const text = "v 1 2 3\nv 0 0 0\nvt 1 2\nvt 3 4\nvn 1 2 3\nvn 0 0 1\nf 1 2 1 2\n"
	first, _ := mesh.Read(text)
	second, _ := mesh.Read(text)
	kept := clone(second)
	spoil(first)
	third, f := mesh.Read(text)
	if !same(second, kept) || !same(third, kept) || f != (api.Fail{}) {
		t.Errorf("Read keeps: %+v, %+v", second, third)
	}
	if first.N[0].X != 9 || first.V[0].X != 7 || first.T[0].X != 8 {
		t.Errorf("Read shares: %+v", first)
	}
}

// spoil turns all of m, and what may lie behind its lists.
func spoil(m api.Mesh) {
	for i := range m.V {
		m.V[i] = api.V3{X: 7}
	}
	for i := range m.T {
		m.T[i] = api.V2{X: 8}
	}
	for i := range m.N {
		m.N[i] = api.V3{X: 9}
	}
	for i := range m.Tris {
		m.Tris[i] = tri(9, 9, 9)
	}
	_, _, _, _ = append(m.V, api.V3{X: 1}), append(m.T, api.V2{X: 1}), append(m.N, api.V3{X: 1}), append(m.Tris, tri(1, 1, 1))
}

// R2: the same is answered however often it is asked.
func TestAgain(t *testing.T) {
	for _, b := range []string{"", "v 1 2 3\nf 1 1 1", "v 1\n", "q", "o x\nvn 1 2 3"} {
		m, f := mesh.Read(b)
		for range 20 {
			if n, g := mesh.Read(b); !reflect.DeepEqual(n, m) || g != f {
				t.Fatalf("Read(%q): %+v, %+v; then %+v, %+v", b, m, f, n, g)
			}
		}
	}
}
