package flat_test

import (
	"math"
	"slices"
	"testing"

	"limewash/api"
	"limewash/flat"
)

// far is the greatest part of a place.
const far = api.MaxUV

// tri is a triangle of points alone.
func tri(a, b, c int) [3]api.Corner {
	return [3]api.Corner{{V: a, T: -1, N: -1}, {V: b, T: -1, N: -1}, {V: c, T: -1, N: -1}}
}

// at is a point in space.
func at(x, y, z int) api.V3 {
	return api.V3{X: x, Y: y, Z: z}
}

// v2 is a point in a plane.
func v2(x, y int) api.V2 {
	return api.V2{X: x, Y: y}
}

// uv is a triangle in a plane, by its six parts.
func uv(a, b, c, d, e, f int) [3]api.V2 {
	return [3]api.V2{v2(a, b), v2(c, d), v2(e, f)}
}

// group is a chart.
func group(axis, side int, tris ...int) api.Chart {
	return api.Chart{Axis: axis, Side: side, Tris: tris}
}

func cloneMesh(m api.Mesh) api.Mesh {
	return api.Mesh{V: slices.Clone(m.V), T: slices.Clone(m.T), N: slices.Clone(m.N), Tris: slices.Clone(m.Tris)}
}

func sameMesh(a, b api.Mesh) bool {
	return slices.Equal(a.V, b.V) && slices.Equal(a.T, b.T) && slices.Equal(a.N, b.N) && slices.Equal(a.Tris, b.Tris)
}

func clone(p api.Patch) api.Patch {
	p.Tris, p.UV = slices.Clone(p.Tris), slices.Clone(p.UV)
	return p
}

func same(a, b api.Patch) bool {
	return a.W == b.W && a.H == b.H && slices.Equal(a.Tris, b.Tris) && slices.Equal(a.UV, b.UV)
}

// rolls gives numbers that look like chance, the same at each run.
func rolls(seed uint64) func(n int) int {
	return func(n int) int {
		seed = seed*6364136223846793005 + 1442695040888963407
		return int((seed >> 33) % uint64(n))
	}
}

// outside gives parts that no small point has.
func outside() []int {
	return []int{far + 1, -far - 1, 2 * far, -2 * far, api.MaxSmall, 1 << 32, 1<<32 + 1, -1 << 32, math.MaxInt, math.MinInt, math.MinInt + 1}
}

// P16.1: how many texels have what lies from 0 to n, counted one by one, and what is none.
func TestSize(t *testing.T) {
	texels := 0
	for n := range far + 1 {
		if n%16 == 0 {
			texels++
		}
		if s, e := flat.Size(n); s != texels || e != api.OK {
			t.Errorf("Size(%d): %d, %d, want %d", n, s, e, texels)
		}
	}
	for n, want := range map[int]int{0: 1, 15: 1, 16: 2, 4079: 255, 4080: 256, 4095: 256, 4096: 257} {
		if s, e := flat.Size(n); s != want || e != api.OK {
			t.Errorf("Size(%d): %d, %d, want %d", n, s, e, want)
		}
	}
	for _, n := range append(outside(), -1, -2, -15, -16, -17, -far) {
		if s, e := flat.Size(n); s != 0 || e != api.ErrRange {
			t.Errorf("Size(%d): %d, %d", n, s, e)
		}
	}
}

// P16.1: the bounds of some triangles, flat ones too, up to the greatest small points.
func TestBox(t *testing.T) {
	for _, x := range []struct {
		l         [][3]api.V2
		low, high api.V2
	}{
		{[][3]api.V2{{}}, v2(0, 0), v2(0, 0)}, {[][3]api.V2{uv(3, 7, 3, 7, 3, 7)}, v2(3, 7), v2(3, 7)}, {[][3]api.V2{uv(-3, -7, -3, -7, -3, -7)}, v2(-3, -7), v2(-3, -7)},
		{[][3]api.V2{uv(3, -1, 1, 5, 2, 0)}, v2(1, -1), v2(3, 5)}, {[][3]api.V2{uv(1, 9, 2, 8, 3, 7)}, v2(1, 7), v2(3, 9)}, {[][3]api.V2{uv(5, 6, 9, 9, 7, 5)}, v2(5, 5), v2(9, 9)},
		{[][3]api.V2{uv(4, 4, 5, 4, 4, 5), uv(-1, 4, 4, 4, 4, 5)}, v2(-1, 4), v2(5, 5)}, {[][3]api.V2{uv(4, 4, 5, 4, 4, 5), uv(4, 4, 4, -1, 4, 5)}, v2(4, -1), v2(5, 5)},
		{[][3]api.V2{uv(4, 4, 5, 4, 4, 5), uv(4, 4, 4, 4, 8, 5)}, v2(4, 4), v2(8, 5)}, {[][3]api.V2{uv(4, 4, 5, 4, 4, 5), uv(4, 4, 4, 9, 4, 5), {}}, v2(0, 0), v2(5, 9)},
		{[][3]api.V2{uv(-far, far, far, -far, 0, 0)}, v2(-far, -far), v2(far, far)}, {[][3]api.V2{uv(far, far, far, far, far, far)}, v2(far, far), v2(far, far)}, {[][3]api.V2{uv(-far, -far, -far, -far, -far, -far)}, v2(-far, -far), v2(-far, -far)},
	} {
		before := slices.Clone(x.l)
		if low, high, e := flat.Box(x.l...); low != x.low || high != x.high || e != api.OK {
			t.Errorf("Box(%v): %v, %v, %d, want %v, %v", x.l, low, high, e, x.low, x.high)
		}
		if !slices.Equal(x.l, before) {
			t.Errorf("Box turned %v into %v", before, x.l)
		}
	}
}

// P16.1: the bounds of many, held against the sorted parts.
func TestBoxMany(t *testing.T) {
	roll := rolls(1)
	for range 3000 {
		var l [][3]api.V2
		var xs, ys []int
		reach := []int{1, 3, 40, far}[roll(4)]
		for range 1 + roll(12) {
			var x [3]api.V2
			for k := range x {
				x[k] = v2(roll(2*reach+1)-reach, roll(2*reach+1)-reach)
				xs, ys = append(xs, x[k].X), append(ys, x[k].Y)
			}
			l = append(l, x)
		}
		slices.Sort(xs)
		slices.Sort(ys)
		last := len(xs) - 1
		if low, high, e := flat.Box(l...); low != v2(xs[0], ys[0]) || high != v2(xs[last], ys[last]) || e != api.OK {
			t.Errorf("Box(%v): %v, %v, %d", l, low, high, e)
		}
	}
}

// P16.1: bounds of none, and of some of which one point is not small, wherever it stands; beside an error all else is zero.
func TestBoxWrong(t *testing.T) {
	for _, l := range [][][3]api.V2{nil, {}, make([][3]api.V2, 0, 5)} {
		if low, high, e := flat.Box(l...); low != (api.V2{}) || high != (api.V2{}) || e != api.ErrArg {
			t.Errorf("Box of none: %v, %v, %d", low, high, e)
		}
	}
	for _, n := range outside() {
		for i := range 9 {
			for _, p := range []api.V2{v2(n, 1), v2(1, n), v2(n, n)} {
				l := [][3]api.V2{uv(1, 2, 3, 4, 5, 6), uv(-far, 2, far, -far, 1, far), {}}
				l[i/3][i%3] = p
				if low, high, e := flat.Box(l...); low != (api.V2{}) || high != (api.V2{}) || e != api.ErrRange {
					t.Errorf("Box(%v): %v, %v, %d", l, low, high, e)
				}
				if low, high, e := flat.Box(l[i/3]); low != (api.V2{}) || high != (api.V2{}) || e != api.ErrRange {
					t.Errorf("Box(%v): %v, %v, %d", l[i/3], low, high, e)
				}
			}
		}
	}
}

// laid is a mesh's chart, a density, and its patch.
type laid struct {
	m       api.Mesh
	c       api.Chart
	density int
	want    api.Patch
}

// room is a mesh of triangles that look along each axis to each side: 0 and 1 up, of one square; 2 down; 3 and 4 along X; 5 and 6 along Y; 7 and 8 are flat; 9 looks up, and lies over 0; 10 looks up, and shares a point alone with 0.
func room() api.Mesh {
	v := []api.V3{at(5, 5, 1), at(25, 5, 2), at(5, 21, 3), at(25, 21, 1), at(-7, 1, 30), at(1, -9, -4), at(5, 5, 9), at(25, 5, 9), at(5, 21, 9), at(-15, 5, 0), at(5, -3, 0)}
	return api.Mesh{V: v, Tris: [][3]api.Corner{tri(0, 1, 2), tri(1, 3, 2), tri(0, 2, 1), tri(0, 2, 4), tri(0, 4, 2), tri(4, 1, 0), tri(0, 1, 4), tri(0, 1, 1), tri(5, 5, 5), tri(6, 7, 8), tri(0, 9, 10)}}
}

// spelt gives charts whose patches are written out, by what they try.
func spelt() map[string]laid {
	m := room()
	patch := func(w, h int, tris []int, l ...[3]api.V2) api.Patch {
		return api.Patch{Tris: tris, UV: l, W: w, H: h}
	}
	wide := api.Mesh{V: []api.V3{at(-far, -far, 0), at(0, -far, 0), at(-far, 0, 0), at(1-far, 0, far)}, Tris: [][3]api.Corner{tri(0, 1, 2), tri(0, 1, 3)}}
	step := api.Mesh{V: []api.V3{at(10, 0, 0), at(10, 64, 0), at(10, 0, 64), at(10, 1, 0), at(10, 0, 1)}, Tris: [][3]api.Corner{tri(0, 1, 2), tri(0, 3, 4)}}
	return map[string]laid{
		"the example":             {m, group(2, 1, 0), 2, patch(3, 3, []int{0}, uv(0, 0, 40, 0, 0, 32))},
		"density 1":               {m, group(2, 1, 0, 1), 1, patch(2, 2, []int{0, 1}, uv(0, 0, 20, 0, 0, 16), uv(20, 0, 20, 16, 0, 16))},
		"density 64":              {m, group(2, 1, 0, 1), 64, patch(81, 65, []int{0, 1}, uv(0, 0, 1280, 0, 0, 1024), uv(1280, 0, 1280, 1024, 0, 1024))},
		"in the order that is":    {m, group(2, 1, 1, 0), 1, patch(2, 2, []int{1, 0}, uv(20, 0, 20, 16, 0, 16), uv(0, 0, 20, 0, 0, 16))},
		"the second one alone":    {m, group(2, 1, 1), 1, patch(2, 2, []int{1}, uv(20, 0, 20, 16, 0, 16))},
		"from below":              {m, group(2, -1, 2), 3, patch(4, 4, []int{2}, uv(0, 0, 0, 48, 60, 0))},
		"along X":                 {m, group(0, 1, 3), 1, patch(2, 2, []int{3}, uv(4, 0, 20, 2, 0, 29))},
		"along X, back":           {m, group(0, -1, 4), 2, patch(3, 4, []int{4}, uv(8, 0, 0, 58, 40, 4))},
		"along Y":                 {m, group(1, 1, 5), 1, patch(2, 3, []int{5}, uv(29, 0, 1, 32, 0, 12))},
		"along Y, back":           {m, group(1, -1, 6), 1, patch(2, 3, []int{6}, uv(0, 12, 1, 32, 29, 0))},
		"not next to one another": {m, group(2, 1, 1, 10), 1, patch(3, 2, []int{1, 10}, uv(40, 8, 40, 24, 20, 24), uv(20, 8, 0, 8, 20, 0))},
		"as far as can be":        {wide, group(2, 1, 0), 1, patch(257, 257, []int{0}, uv(0, 0, far, 0, 0, far))},
		"as dense as can be":      {step, group(0, 1, 0), 64, patch(257, 257, []int{0}, uv(0, 0, far, 0, 0, far))},
		"as small as can be":      {step, group(0, 1, 1), 1, patch(1, 1, []int{1}, uv(0, 0, 1, 0, 0, 1))},
		"up to a texel's rim":     {step, group(0, 1, 1), 16, patch(2, 2, []int{1}, uv(0, 0, 16, 0, 0, 16))},
		"next to a texel's rim":   {step, group(0, 1, 1), 15, patch(1, 1, []int{1}, uv(0, 0, 15, 0, 0, 15))},
		"a slope, seen along Y":   {wide, group(1, -1, 1), 1, patch(257, 257, []int{1}, uv(0, 0, 0, far, far, 1))},
	}
}

// checkLay holds a chart's patch against what is wanted; by R2 the mesh and the chart stay as they are.
func checkLay(t *testing.T, name string, x laid) {
	t.Helper()
	before, tris := cloneMesh(x.m), slices.Clone(x.c.Tris)
	p, e := flat.Lay(x.m, x.c, x.density)
	if !same(p, x.want) || e != api.OK {
		t.Errorf("%s: Lay: %v, %d, want %v", name, p, e, x.want)
	}
	if !flat.Is(p) {
		t.Errorf("%s: Is, of %v, is false", name, p)
	}
	if !sameMesh(x.m, before) || !slices.Equal(x.c.Tris, tris) {
		t.Errorf("%s: the mesh is turned into %v, or the chart into %v", name, x.m, x.c)
	}
}

// P16.2: charts whose patches are written out.
func TestLay(t *testing.T) {
	for name, x := range spelt() {
		checkLay(t, name, x)
	}
}

// P16.2: patches hang on the corners' V alone.
func TestLayPointsAlone(t *testing.T) {
	for name, x := range spelt() {
		x.m.T = []api.V2{v2(1, 2), v2(api.MaxPart, -api.MaxPart), v2(9, 9)}
		x.m.N = []api.V3{at(1, 0, 0), at(0, 0, -1)}
		for i := range x.m.Tris {
			for k := range x.m.Tris[i] {
				x.m.Tris[i][k].T, x.m.Tris[i][k].N = (i+k)%3, k%2
			}
		}
		checkLay(t, name+", with all else", x)
	}
}

// refuse asks that a chart is not laid, for such a reason, and beside it all is zero.
func refuse(t *testing.T, m api.Mesh, c api.Chart, density int, want api.Errno) {
	t.Helper()
	before, tris := cloneMesh(m), slices.Clone(c.Tris)
	p, e := flat.Lay(m, c, density)
	if e != want || p.Tris != nil || p.UV != nil || p.W != 0 || p.H != 0 {
		t.Errorf("Lay, of %v at %d: %v, %d, want %d", c, density, p, e, want)
	}
	if !sameMesh(m, before) || !slices.Equal(c.Tris, tris) {
		t.Errorf("Lay turned the mesh into %v, or the chart into %v", m, c)
	}
}

// P16.2: charts that have nothing, something that is no place, looks elsewhere, or nowhere.
func TestLayWrongChart(t *testing.T) {
	m := room()
	for _, c := range []api.Chart{
		{}, group(2, 1), group(0, -1), {Axis: 2, Side: 1, Tris: []int{}}, group(math.MaxInt, math.MinInt),
		group(2, 1, -1), group(2, 1, 11), group(2, 1, 0, 11), group(2, 1, -1, 0), group(2, 1, 0, math.MaxInt), group(2, 1, math.MinInt, 0), group(2, 1, 0, 1, -2),
		group(2, -1, 0), group(0, 1, 0), group(1, 1, 0), group(2, 1, 2), group(2, 1, 0, 2), group(2, 1, 2, 0), group(2, 1, 0, 3), group(2, 1, 0, 1, 5), group(0, 1, 4), group(0, -1, 3), group(1, 1, 6), group(1, -1, 5), group(0, 1, 5), group(1, 1, 3),
		group(2, 1, 7), group(0, 0, 7), group(0, 0, 8), group(2, 1, 0, 7), group(2, 1, 8, 0), group(2, 0, 0), group(2, 2, 0), group(3, 1, 0), group(-1, 1, 3), group(0, 0, 0), group(math.MaxInt, 1, 0), group(2, math.MinInt, 0),
	} {
		for _, density := range []int{1, 2, 64} {
			refuse(t, m, c, density, api.ErrArg)
		}
	}
	for _, c := range []api.Chart{group(0, 0, 0), group(0, 0, -1), {}} {
		refuse(t, api.Mesh{}, c, 1, api.ErrArg)
	}
}

// P16.2: densities that are none.
func TestLayWrongDensity(t *testing.T) {
	for _, n := range []int{0, -1, -2, 65, 66, 128, 1 << 32, 1<<32 + 1, math.MaxInt, math.MinInt} {
		refuse(t, room(), group(2, 1, 0), n, api.ErrArg)
	}
	for n := 1; n <= 64; n++ {
		if p, e := flat.Lay(room(), group(2, 1, 0), n); e != api.OK || !slices.Equal(p.UV, [][3]api.V2{uv(0, 0, 20*n, 0, 0, 16*n)}) {
			t.Errorf("density %d: %v, %d", n, p, e)
		}
	}
}

// P16.2: meshes that are not tame, wherever it is that they are not.
func TestLayWrongMesh(t *testing.T) {
	c := group(2, 1, 0)
	turn := func(f func(m *api.Mesh)) {
		m := room()
		m.T, m.N = make([]api.V2, 3), make([]api.V3, 3)
		f(&m)
		refuse(t, m, c, 1, api.ErrArg)
	}
	for _, n := range append(outside(), api.MaxPart, api.MaxPart+1) {
		for i := range room().V {
			turn(func(m *api.Mesh) { m.V[i].X = n })
			turn(func(m *api.Mesh) { m.V[i].Y = n })
			turn(func(m *api.Mesh) { m.V[i].Z = n })
		}
	}
	turn(func(m *api.Mesh) { m.V = append(m.V, at(0, far+1, 0)) })
	turn(func(m *api.Mesh) { m.T[2].X = api.MaxPart + 1 })
	turn(func(m *api.Mesh) { m.N[2].Z = -api.MaxPart - 1 })
	turn(func(m *api.Mesh) { m.T = make([]api.V2, api.MaxVerts+1) })
	turn(func(m *api.Mesh) { m.V = append(m.V, make([]api.V3, api.MaxVerts)...) })
	turn(func(m *api.Mesh) { m.Tris = slices.Repeat(m.Tris, api.MaxTris)[:api.MaxTris+1] })
	turn(func(m *api.Mesh) { m.V = nil })
	for _, i := range []int{0, 9} {
		turn(func(m *api.Mesh) { m.Tris[i][2].V = 11 })
		turn(func(m *api.Mesh) { m.Tris[i][0].V = -1 })
		turn(func(m *api.Mesh) { m.Tris[i][1].T = 0 })
		turn(func(m *api.Mesh) { m.Tris[i][1].N = -2 })
		turn(func(m *api.Mesh) { m.Tris[i][2].N = math.MaxInt })
	}
}

// P16.2: what goes too far, along one way alone, of one triangle or of several together.
func TestLayLimit(t *testing.T) {
	for density := 1; density <= 64; density++ {
		n := far / density
		for most, want := range map[int]api.Errno{n: api.OK, n + 1: api.ErrLimit} {
			// On the ground; long along X, or along Y.
			for _, high := range [][2]api.V3{{at(most-9, 2, 5), at(0, 3, 5)}, {at(1, 2, 5), at(0, most+2, 5)}} {
				m := api.Mesh{V: []api.V3{at(-9, 2, 5), high[0], high[1]}, Tris: [][3]api.Corner{tri(0, 1, 2)}}
				for i := range m.V {
					m.V[i].Y -= 9
				}
				if p, e := flat.Lay(m, group(2, 1, 0), density); e != want || flat.Is(p) != (want == api.OK) {
					t.Errorf("%v at %d: %d, want %d", m.V, density, e, want)
				}
			}
			// Two small ones, far from one another.
			m := api.Mesh{V: []api.V3{at(-9, 0, 0), at(-8, 0, 0), at(-9, 1, 0), at(most-10, 0, 0), at(most-9, 0, 0), at(most-10, 1, 0)}, Tris: [][3]api.Corner{tri(0, 1, 2), tri(3, 4, 5)}}
			if _, e := flat.Lay(m, group(2, 1, 1, 0), density); e != want {
				t.Errorf("%v at %d: %d, want %d", m.V, density, e, want)
			}
		}
	}
	all := api.Mesh{V: []api.V3{at(-far, -far, 0), at(far, -far, 0), at(-far, far, 0)}, Tris: [][3]api.Corner{tri(0, 1, 2)}}
	refuse(t, all, group(2, 1, 0), 1, api.ErrLimit)
	refuse(t, all, group(2, 1, 0), 64, api.ErrLimit)
}

// P16.2: two that overlap: by a lot, by as little as can be, and one that is there twice; those that touch alone do not.
func TestLayOverlap(t *testing.T) {
	m := room()
	for _, c := range []api.Chart{group(2, 1, 0, 0), group(2, 1, 0, 9), group(2, 1, 9, 0), group(2, 1, 0, 1, 9), group(2, 1, 0, 1, 0), group(2, 1, 1, 10, 0, 10)} {
		for _, density := range []int{1, 7, 64} {
			refuse(t, m, c, density, api.ErrArg)
		}
	}
	for _, c := range []api.Chart{group(2, 1, 0, 1, 10), group(2, 1, 10, 9), group(2, 1, 1, 9)} {
		if p, e := flat.Lay(m, c, 1); e != api.OK || !slices.Equal(p.Tris, c.Tris) {
			t.Errorf("Lay, of %v: %v, %d", c, p, e)
		}
	}
	// The third corner of the second one is on the first one's long side, or a step within.
	for shift, want := range map[int]api.Errno{0: api.OK, 1: api.OK, -1: api.ErrArg} {
		m := api.Mesh{V: []api.V3{at(0, 0, 0), at(64, 0, 0), at(0, 64, 0), at(64, 64, 9), at(40, 64, 9), at(32, 32+shift, 9)}, Tris: [][3]api.Corner{tri(0, 1, 2), tri(3, 4, 5)}}
		if _, e := flat.Lay(m, group(2, 1, 0, 1), 64); e != want {
			t.Errorf("shifted by %d: %d, want %d", shift, e, want)
		}
	}
}

// P16.2: of several errors the first one that the promise names.
func TestLayOrder(t *testing.T) {
	m := api.Mesh{V: []api.V3{at(0, 0, 0), at(far, 0, 0), at(0, far, 0)}, Tris: [][3]api.Corner{tri(0, 1, 2), tri(0, 2, 1)}}
	refuse(t, m, group(2, 1, 0), 2, api.ErrLimit)
	refuse(t, m, group(2, 1, 0, 0), 2, api.ErrLimit)
	refuse(t, m, group(2, 1, 0, 0), 1, api.ErrArg)
	refuse(t, m, group(2, 1, 0, 1), 2, api.ErrArg)
	refuse(t, m, group(2, 1, 0, 2), 2, api.ErrArg)
	refuse(t, m, group(2, 1, 0), 65, api.ErrArg)
	refuse(t, m, group(2, 1), 2, api.ErrArg)
	// More places than a mesh has triangles.
	many := slices.Repeat([]int{0}, 3*api.MaxTris)
	refuse(t, m, group(2, 1, many...), 1, api.ErrArg)
	refuse(t, m, group(2, 1, many...), 2, api.ErrLimit)
	refuse(t, m, group(2, 1, append(many, 1)...), 2, api.ErrArg)
	m.V[1].X = far + 1
	refuse(t, m, group(2, 1, 0), 2, api.ErrArg)
}
