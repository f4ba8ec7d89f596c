package chart_test

import (
	"slices"
	"strconv"
	"testing"

	"limewash/api"
	"limewash/chart"
)

// rolls gives numbers that look like chance, the same at each run.
func rolls(seed uint64) func(n int) int {
	return func(n int) int {
		seed = seed*6364136223846793005 + 1442695040888963407
		return int((seed >> 33) % uint64(n))
	}
}

// rolled gives a mesh of some points of a small lattice; few points make many triangles that hang together, that are flat, and that lie over one another.
func rolled(roll func(n int) int) api.Mesh {
	many, high := []int{3, 4, 5, 7, 10}[roll(5)], []int{1, 2, 4}[roll(3)]
	m := api.Mesh{}
	for range many {
		p := [3]int{roll(4), roll(4), roll(high)}
		turn := roll(20) / 9
		m.V = append(m.V, at(p[turn%3], p[(turn+1)%3], p[(turn+2)%3]))
	}
	for range roll(20) {
		a, b := roll(many), roll(many)
		if len(m.Tris) > 0 && roll(4) > 0 {
			// Most go on from a side of one that is there.
			x, k := m.Tris[roll(len(m.Tris))], roll(3)
			a, b = x[(k+1)%3].V, x[k].V
		}
		m.Tris = append(m.Tris, tri(a, b, roll(many)))
	}
	return m
}

// mixed gives a rolled mesh, or a sheet.
func mixed(roll func(n int) int) api.Mesh {
	if roll(3) == 0 {
		return sheet(roll, 2+roll(2), 1+roll(6))
	}
	return rolled(roll)
}

// sheet gives a mesh of a lattice of points at rolled heights, cut into triangles whose order, and whose sides now and then, are rolled.
func sheet(roll func(n int) int, wide, high int) api.Mesh {
	m := api.Mesh{}
	for i := range (wide + 1) * (wide + 1) {
		m.V = append(m.V, at(i%(wide+1)*4+roll(3), i/(wide+1)*4+roll(3), roll(high)))
	}
	for i := range wide * wide {
		a := i/wide*(wide+1) + i%wide
		m.Tris = append(m.Tris, tri(a, a+1, a+wide+1), tri(a+1, a+wide+2, a+wide+1))
	}
	for i := range m.Tris {
		k := i + roll(len(m.Tris)-i)
		m.Tris[i], m.Tris[k] = m.Tris[k], m.Tris[i]
		if roll(30) == 0 {
			m.Tris[i][0], m.Tris[i][1] = m.Tris[i][1], m.Tris[i][0]
		}
	}
	return m
}

// plainFacing is another reading: of the areas that are seen along the axes, in order, the greatest one.
func plainFacing(m api.Mesh, i int) (int, int, bool) {
	axis, most := 0, 0
	for k := range 3 {
		s := plainShadow(m, i, k)
		area := (s[1].X-s[0].X)*(s[2].Y-s[0].Y) - (s[1].Y-s[0].Y)*(s[2].X-s[0].X)
		if max(area, -area) > max(most, -most) {
			axis, most = k, area
		}
	}
	switch {
	case most > 0:
		return axis, 1, true
	case most < 0:
		return axis, -1, true
	}
	return 0, 0, false
}

// plainShadow is another reading of what is seen along an axis.
func plainShadow(m api.Mesh, i, axis int) [3]api.V2 {
	var s [3]api.V2
	for k, c := range m.Tris[i] {
		p := m.V[c.V]
		s[k] = []api.V2{{X: p.Y, Y: p.Z}, {X: p.Z, Y: p.X}, {X: p.X, Y: p.Y}}[axis]
	}
	return s
}

// span is from where to where a triangle is seen along a way.
func span(s [3]api.V2, way api.V2) (int, int) {
	a, b, c := s[0].X*way.X+s[0].Y*way.Y, s[1].X*way.X+s[1].Y*way.Y, s[2].X*way.X+s[2].Y*way.Y
	return min(a, b, c), max(a, b, c)
}

// plainOverlap is another reading: seen along what is square to each edge of both there is no room between them.
func plainOverlap(a, b [3]api.V2) bool {
	for _, s := range [][3]api.V2{a, b} {
		for i := range s {
			from, to := s[i], s[(i+1)%3]
			way := api.V2{X: to.Y - from.Y, Y: from.X - to.X}
			low, high := span(a, way)
			least, most := span(b, way)
			if high <= least || most <= low {
				return false
			}
		}
	}
	return true
}

// plainNext is another reading: two triangles have corners at two unlike places in common.
func plainNext(m api.Mesh, i, k int) bool {
	var l []int
	for _, x := range m.Tris[i] {
		for _, y := range m.Tris[k] {
			if x.V == y.V && !slices.Contains(l, x.V) {
				l = append(l, x.V)
			}
		}
	}
	return i != k && len(l) > 1
}

// plainFits is another reading of what fits a chart.
func plainFits(m api.Mesh, c api.Chart, i int) bool {
	looks := func(k int) bool {
		if k < 0 || k >= len(m.Tris) {
			return false
		}
		axis, side, ok := plainFacing(m, k)
		return ok && axis == c.Axis && side == c.Side
	}
	if !looks(i) || slices.Contains(c.Tris, i) {
		return false
	}
	near := len(c.Tris) == 0
	for _, k := range c.Tris {
		if !looks(k) || plainOverlap(plainShadow(m, i, c.Axis), plainShadow(m, k, c.Axis)) {
			return false
		}
		near = near || plainNext(m, i, k)
	}
	return near
}

// plainGrow is another reading of how charts grow.
func plainGrow(m api.Mesh) []api.Chart {
	var l []api.Chart
	in := make([]bool, len(m.Tris))
	for first := range m.Tris {
		axis, side, ok := plainFacing(m, first)
		if !ok || in[first] {
			continue
		}
		c := group(axis, side)
		for i := 0; i < len(m.Tris); i++ {
			if !in[i] && plainFits(m, c, i) {
				c.Tris = append(c.Tris, i)
				in[i] = true
				i = -1
			}
		}
		l = append(l, c)
	}
	return l
}

// plainIs is another reading of what charts are.
func plainIs(m api.Mesh, l []api.Chart) bool {
	count := make([]int, len(m.Tris))
	for _, c := range l {
		for n, i := range c.Tris {
			if !plainFits(m, group(c.Axis, c.Side, c.Tris[:n]...), i) {
				return false
			}
			count[i]++
		}
		if len(c.Tris) == 0 {
			return false
		}
	}
	for i, n := range count {
		_, _, ok := plainFacing(m, i)
		if ok != (n == 1) || n > 1 {
			return false
		}
	}
	return true
}

// P15.1, P15.2, P15.3: rolled meshes, held against another reading.
func TestMany(t *testing.T) {
	roll := rolls(1)
	one, more, flat := 0, 0, 0
	for n := range 5000 {
		m := mixed(roll)
		if n%100 == 0 {
			m = sheet(roll, 6, 1+roll(6))
		}
		want := plainGrow(m)
		check(t, "rolled "+strconv.Itoa(n), known{m, want})
		for _, c := range want {
			if len(c.Tris) == 1 {
				one++
			} else {
				more++
			}
		}
		for i := range m.Tris {
			axis, side, ok := chart.Facing(m, i)
			if a, s, there := plainFacing(m, i); axis != a || side != s || ok != there {
				t.Errorf("Facing of %d in %v: %d, %d, %t", i, m, axis, side, ok)
			}
			if !ok {
				flat++
			}
			for k := range 3 {
				if s, e := chart.Shadow(m, i, k); s != plainShadow(m, i, k) || e != api.OK {
					t.Errorf("Shadow of %d along %d in %v: %v, %d", i, k, m, s, e)
				}
			}
		}
	}
	if min(one, more, flat) < 2500 {
		t.Errorf("too few of one kind: %d, %d, %d", one, more, flat)
	}
}

// some gives a chart of some of a mesh's triangles, most of which look as it does.
func some(m api.Mesh, roll func(n int) int) api.Chart {
	c := api.Chart{Axis: roll(3), Side: roll(2)*2 - 1}
	if len(m.Tris) > 0 && roll(5) > 0 {
		c.Axis, c.Side, _ = plainFacing(m, roll(len(m.Tris)))
	}
	for i := range m.Tris {
		axis, side, ok := plainFacing(m, i)
		if roll(3) == 0 && ok && axis == c.Axis && side == c.Side || roll(60) == 0 {
			c.Tris = append(c.Tris, i)
		}
	}
	for n := range c.Tris {
		k := n + roll(len(c.Tris)-n)
		c.Tris[n], c.Tris[k] = c.Tris[k], c.Tris[n]
	}
	return c
}

// P15.1: what fits, held against another reading, in charts whose own triangles need not fit one another.
func TestManyFits(t *testing.T) {
	roll := rolls(2)
	yes, no := 0, 0
	for range 2500 {
		m := mixed(roll)
		for range 4 {
			c := some(m, roll)
			for i := range m.Tris {
				fits := chart.Fits(m, c, i)
				if fits != plainFits(m, c, i) {
					t.Errorf("Fits, of %d in %v of %v: %t", i, c, m, fits)
				}
				if fits && len(c.Tris) > 0 {
					yes++
				} else if len(c.Tris) > 0 {
					no++
				}
			}
		}
	}
	if yes < 1000 || no < 1000 {
		t.Errorf("too few of one kind: %d, %d", yes, no)
	}
}

// turned gives charts that differ from l by one step, and may be right or not.
func turned(l []api.Chart, roll func(n int) int) []api.Chart {
	l = cloneCharts(l)
	if len(l) == 0 {
		return []api.Chart{{}}
	}
	a, b := roll(len(l)), roll(len(l))
	c := &l[a]
	i, k := roll(len(c.Tris)), roll(len(c.Tris))
	switch roll(10) {
	case 0:
		l[a], l[b] = l[b], l[a]
	case 1:
		c.Tris[i], c.Tris[k] = c.Tris[k], c.Tris[i]
	case 2:
		c.Tris = slices.Delete(c.Tris, i, i+1)
	case 3:
		// A new chart goes on where this one is cut, and may have nothing.
		l = append(l, group(c.Axis, c.Side, c.Tris[i:]...))
		l[a].Tris = slices.Clone(l[a].Tris[:i])
	case 4:
		n := c.Tris[i]
		c.Tris = slices.Delete(c.Tris, i, i+1)
		l[b].Tris = append(l[b].Tris, n)
	case 5:
		c.Tris = append(c.Tris, c.Tris[i])
	case 6:
		c.Axis = (c.Axis + 1) % 3
	case 7:
		c.Side = -c.Side
	case 8:
		c.Tris[i]++
	case 9:
		slices.Reverse(c.Tris)
	}
	return l
}

// P15.3: charts that differ from those that are grown, held against another reading.
func TestManyIs(t *testing.T) {
	roll := rolls(3)
	yes, no := 0, 0
	for range 24000 {
		m := mixed(roll)
		grown := plainGrow(m)
		l := turned(grown, roll)
		if roll(2) == 0 && !slices.ContainsFunc(l, func(c api.Chart) bool { return len(c.Tris) == 0 }) {
			l = turned(l, roll)
		}
		is := chart.Is(m, l)
		if is != plainIs(m, l) {
			t.Errorf("Is, of %v of %v: %t", l, m, is)
		}
		if is && !slices.EqualFunc(l, grown, isChart) {
			yes++
		} else if !is {
			no++
		}
	}
	if yes < 1000 || no < 1000 {
		t.Errorf("too few of one kind: %d, %d", yes, no)
	}
}

// greatest gives tame meshes with as many triangles as may be, and how many triangles their charts have.
func greatest() map[string]struct {
	m     api.Mesh
	parts []int
} {
	row, page, ring, turn := api.Mesh{}, api.Mesh{}, stairs(api.MaxTris), api.Mesh{}
	for i := range api.MaxTris + 2 {
		row.V = append(row.V, at(8*i, i%2*8, 0))
	}
	for i := range api.MaxTris {
		row.Tris = append(row.Tris, [][3]api.Corner{tri(i, i+2, i+1), tri(i, i+1, i+2)}[i%2])
	}
	page.V = []api.V3{{}, at(64, 0, 0)}
	for i := range api.MaxTris {
		page.V = append(page.V, at(0, 64, i%60))
		page.Tris = append(page.Tris, tri(0, 1, i+2))
	}
	// Of a row that is told from its far end on, what fits stands at the end each time.
	turn = clone(row)
	slices.Reverse(turn.Tris[1:])
	ones := slices.Repeat([]int{1}, api.MaxTris)
	eights := append(slices.Repeat([]int{8}, api.MaxTris/8), api.MaxTris%8)
	return map[string]struct {
		m     api.Mesh
		parts []int
	}{"row": {row, []int{api.MaxTris}}, "pages": {page, ones}, "stairs": {ring, eights}, "turned row": {turn, []int{api.MaxTris}}}
}

// P15.2, P15.3: as many triangles as may be: in one chart, in as many, and in some.
func TestGreatest(t *testing.T) {
	for name, x := range greatest() {
		l, e := chart.Grow(x.m)
		var parts []int
		for _, c := range l {
			parts = append(parts, len(c.Tris))
		}
		if e != api.OK || !slices.Equal(parts, x.parts) || !chart.Is(x.m, l) {
			t.Errorf("%s: Grow: %d, as many as %v", name, e, parts)
		}
		last := len(l) - 1
		n := len(l[last].Tris) - 1
		i := l[last].Tris[n]
		l[last].Tris = l[last].Tris[:n]
		if chart.Is(x.m, l) || !chart.Fits(x.m, l[last], i) {
			t.Errorf("%s: without the last one", name)
		}
	}
}

// P15.4: what is grown is right; no two shadows of a chart overlap; flat triangles are in no chart; first ones rise.
func TestFollows(t *testing.T) {
	roll := rolls(4)
	for range 3000 {
		m := mixed(roll)
		l, e := chart.Grow(m)
		if e != api.OK || !chart.Is(m, l) {
			t.Errorf("Grow of %v: %v, %d", m, l, e)
		}
		first := -1
		for _, c := range l {
			if c.Tris[0] <= first {
				t.Errorf("Grow of %v: %d begins a chart behind %d", m, c.Tris[0], first)
			}
			first = c.Tris[0]
			for n, i := range c.Tris {
				a, _ := chart.Shadow(m, i, c.Axis)
				axis, side, ok := chart.Facing(m, i)
				if axis != c.Axis || side != c.Side || !ok {
					t.Errorf("Grow of %v: %d looks along %d to %d", m, i, axis, side)
				}
				for _, k := range c.Tris[:n] {
					if b, _ := chart.Shadow(m, k, c.Axis); plainOverlap(a, b) {
						t.Errorf("Grow of %v: %d and %d overlap", m, i, k)
					}
				}
			}
		}
	}
}

// spoil overwrites all of a list, and what it could be made longer by.
func spoil(l []int) {
	l = l[:cap(l)]
	for i := range l {
		l[i] = -77
	}
}

// R2: what is answered is new, each list for itself, and the same at each call.
func TestNew(t *testing.T) {
	for name, x := range spelt() {
		l, _ := chart.Grow(x.m)
		for i := range l {
			spoil(l[i].Tris)
			for k := i + 1; k < len(l); k++ {
				if !isChart(l[k], x.charts[k]) {
					t.Errorf("%s: %v shares its list with %v", name, x.charts[i], x.charts[k])
				}
			}
		}
		check(t, name+", once more", x)
		// What is handed in has room to be made longer by, which stays as it is.
		room := []int{0, -77, -77, -77}
		chart.Fits(x.m, group(2, 1, room[:1]...), 1)
		chart.Is(x.m, []api.Chart{group(2, 1, room[:1]...)})
		if !slices.Equal(room, []int{0, -77, -77, -77}) {
			t.Errorf("%s: what lies behind the argument is turned into %v", name, room)
		}
	}
}
