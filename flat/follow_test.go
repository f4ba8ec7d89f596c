package flat_test

import (
	"slices"
	"testing"

	"limewash/api"
	"limewash/chart"
	"limewash/flat"
)

// sheet gives a mesh of a lattice of points at rolled heights, seen along a rolled axis, cut into triangles whose sides now and then are rolled.
func sheet(roll func(n int) int, wide, step, high int) api.Mesh {
	m := api.Mesh{}
	turn := roll(3)
	for i := range (wide + 1) * (wide + 1) {
		p := [3]int{i%(wide+1)*step + roll(step/2), i/(wide+1)*step + roll(step/2), roll(high) - high/2}
		m.V = append(m.V, at(p[turn]-20, p[(turn+1)%3], p[(turn+2)%3]-7))
	}
	for i := range wide * wide {
		a := i/wide*(wide+1) + i%wide
		m.Tris = append(m.Tris, tri(a, a+1, a+wide+1), tri(a+1, a+wide+2, a+wide+1))
	}
	for i := range m.Tris {
		if roll(20) == 0 {
			m.Tris[i][0], m.Tris[i][1] = m.Tris[i][1], m.Tris[i][0]
		}
	}
	return m
}

// rolled gives a mesh of some triangles of few points, flat ones and ones that lie over one another among them.
func rolled(roll func(n int) int) api.Mesh {
	m := api.Mesh{}
	reach := []int{4, 12, 70, far}[roll(4)]
	many := 3 + roll(6)
	for range many {
		m.V = append(m.V, at(roll(2*reach+1)-reach, roll(2*reach+1)-reach, roll(2*reach+1)-reach))
	}
	for range 1 + roll(9) {
		m.Tris = append(m.Tris, tri(roll(many), roll(many), roll(many)))
	}
	return m
}

// mixed gives a rolled mesh, or a sheet.
func mixed(roll func(n int) int) api.Mesh {
	if roll(3) == 0 {
		return rolled(roll)
	}
	return sheet(roll, 1+roll(4), 4+roll(60), 1+roll(60))
}

// plainShadow is another reading of what is seen along an axis.
func plainShadow(m api.Mesh, i, axis int) [3]api.V2 {
	var s [3]api.V2
	for k, c := range m.Tris[i] {
		p := m.V[c.V]
		s[k] = []api.V2{v2(p.Y, p.Z), v2(p.Z, p.X), v2(p.X, p.Y)}[axis]
	}
	return s
}

// plainFacing is another reading: of the areas that are seen along the axes, in order, the greatest one.
func plainFacing(m api.Mesh, i int) (int, int, bool) {
	axis, most := 0, 0
	for k := range 3 {
		if area := plainArea(plainShadow(m, i, k)); max(area, -area) > max(most, -most) {
			axis, most = k, area
		}
	}
	switch {
	case most > 0:
		return axis, 1, true
	case most < 0:
		return axis, -1, true
	}
	return 0, 0, false
}

// plainLay is another reading of how a chart of a tame mesh is laid, word by word.
func plainLay(m api.Mesh, c api.Chart, density int) (api.Patch, api.Errno) {
	if len(c.Tris) == 0 || density < 1 || density > 64 {
		return api.Patch{}, api.ErrArg
	}
	p := api.Patch{Tris: c.Tris}
	var xs, ys []int
	for _, i := range c.Tris {
		if i < 0 || i >= len(m.Tris) {
			return api.Patch{}, api.ErrArg
		}
		if axis, side, ok := plainFacing(m, i); !ok || axis != c.Axis || side != c.Side {
			return api.Patch{}, api.ErrArg
		}
		s := plainShadow(m, i, c.Axis)
		for k := range s {
			s[k] = v2(s[k].X*density, s[k].Y*density)
			xs, ys = append(xs, s[k].X), append(ys, s[k].Y)
		}
		p.UV = append(p.UV, s)
	}
	x, y := slices.Min(xs), slices.Min(ys)
	for i := range p.UV {
		for k, q := range p.UV[i] {
			p.UV[i][k] = v2(q.X-x, q.Y-y)
		}
	}
	if slices.Max(xs)-x > 4096 || slices.Max(ys)-y > 4096 {
		return api.Patch{}, api.ErrLimit
	}
	for k := range p.UV {
		for i := range k {
			if plainOverlap(p.UV[i], p.UV[k]) {
				return api.Patch{}, api.ErrArg
			}
		}
	}
	p.W, p.H = (slices.Max(xs)-x)/16+1, (slices.Max(ys)-y)/16+1
	return p, api.OK
}

// some gives a chart of some of a mesh's triangles in a rolled order, most of which look as it does.
func some(m api.Mesh, roll func(n int) int) api.Chart {
	c := api.Chart{Axis: roll(3), Side: roll(2)*2 - 1}
	if roll(9) > 0 {
		c.Axis, c.Side, _ = plainFacing(m, roll(len(m.Tris)))
	}
	rare := 2 + roll(8)
	for i := range m.Tris {
		axis, side, ok := plainFacing(m, i)
		if roll(rare) == 0 && ok && axis == c.Axis && side == c.Side || roll(100) == 0 {
			c.Tris = append(c.Tris, i)
		}
	}
	for n := range c.Tris {
		k := n + roll(len(c.Tris)-n)
		c.Tris[n], c.Tris[k] = c.Tris[k], c.Tris[n]
	}
	return c
}

// P16.2: charts of rolled meshes, held against another reading.
func TestLayMany(t *testing.T) {
	roll := rolls(4)
	count := map[api.Errno]int{}
	for range 20000 {
		m := mixed(roll)
		c, density := some(m, roll), 1+roll([]int{4, 64, 66}[roll(3)])
		want, f := plainLay(m, c, density)
		p, e := flat.Lay(m, c, density)
		if !same(p, want) || e != f {
			t.Errorf("Lay, of %v of %v at %d: %v, %d, want %v, %d", c, m, density, p, e, want, f)
		}
		if len(c.Tris) > 1 {
			count[e]++
		}
	}
	if min(count[api.OK], count[api.ErrLimit], count[api.ErrArg]) < 500 {
		t.Errorf("too few of one kind: %v", count)
	}
}

// checkFollows holds a chart's patch against its shadows.
func checkFollows(t *testing.T, m api.Mesh, c api.Chart, density int, p api.Patch) {
	t.Helper()
	if !flat.Is(p) || !slices.Equal(p.Tris, c.Tris) {
		t.Errorf("Lay, of %v of %v at %d: %v", c, m, density, p)
	}
	for n, i := range c.Tris {
		s, _ := chart.Shadow(m, i, c.Axis)
		if plainArea(p.UV[n]) != plainArea(s)*density*density {
			t.Errorf("the area of %v is not that of %v at %d", p.UV[n], s, density)
		}
		for _, q := range p.UV[n] {
			if q.X < 0 || q.X >= 16*p.W || q.Y < 0 || q.Y >= 16*p.H {
				t.Errorf("%v is out of %d by %d texels", q, p.W, p.H)
			}
		}
	}
}

// P16.4: charts that are grown are laid, unless they are too great: right, with the areas of their shadows, all in their texels.
func TestFollows(t *testing.T) {
	roll := rolls(5)
	laid, limits := 0, 0
	for range 2500 {
		m := mixed(roll)
		charts, _ := chart.Grow(m)
		density := 1 + roll([]int{4, 64}[roll(2)])
		for _, c := range charts {
			p, e := flat.Lay(m, c, density)
			switch e {
			case api.OK:
				laid++
				checkFollows(t, m, c, density, p)
			case api.ErrLimit:
				limits++
			default:
				t.Errorf("Lay, of %v of %v at %d: %d", c, m, density, e)
			}
		}
	}
	if laid < 3000 || limits < 300 {
		t.Errorf("too few of one kind: %d, %d", laid, limits)
	}
}

// P16.4, R1: as many triangles as may be, side by side, and round one point, where their bounds meet by the hundred.
func TestGreatest(t *testing.T) {
	row := api.Mesh{}
	for i := range api.MaxTris + 2 {
		row.V = append(row.V, at(8*i, i%2*8, 0))
	}
	for i := range api.MaxTris {
		row.Tris = append(row.Tris, [][3]api.Corner{tri(i, i+2, i+1), tri(i, i+1, i+2)}[i%2])
	}
	fan := api.Mesh{V: []api.V3{at(0, 0, 9)}}
	for i := range api.MaxTris + 1 {
		fan.V = append(fan.V, at(far-8*i, 8*i, 9))
	}
	for i := range api.MaxTris {
		fan.Tris = append(fan.Tris, tri(0, i+1, i+2))
	}
	for name, m := range map[string]api.Mesh{"row": row, "fan": fan} {
		m.V = append(m.V, make([]api.V3, api.MaxVerts-len(m.V))...)
		m.T, m.N = make([]api.V2, api.MaxVerts), make([]api.V3, api.MaxVerts)
		charts, _ := chart.Grow(m)
		if len(charts) != 1 || len(charts[0].Tris) != api.MaxTris {
			t.Fatalf("%s: %d charts", name, len(charts))
		}
		p, e := flat.Lay(m, charts[0], 1)
		if e != api.OK {
			t.Fatalf("%s: Lay: %d", name, e)
		}
		checkFollows(t, m, charts[0], 1, p)
		// One between the ends, so that the patch stays as wide and as high.
		p.UV[api.MaxTris/2] = p.UV[api.MaxTris/2+1]
		if flat.Is(p) {
			t.Errorf("%s: with one twice: Is is true", name)
		}
	}
}
