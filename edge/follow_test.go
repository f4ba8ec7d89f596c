package edge_test

import (
	"slices"
	"strconv"
	"testing"

	"limewash/api"
	"limewash/edge"
)

// rolls gives numbers that look like chance, the same at each run.
func rolls(seed uint64) func(n int) int {
	return func(n int) int {
		seed = seed*6364136223846793005 + 1442695040888963407
		return int((seed >> 33) % uint64(n))
	}
}

// rolled gives a mesh of some points and triangles; few points make many that hang together, and many that are flat.
func rolled(roll func(n int) int) api.Mesh {
	m := of([]int{1, 2, 3, 4, 6, 9, 14, 20}[roll(8)])
	for range roll(14) {
		m.Tris = append(m.Tris, tri(roll(len(m.V)), roll(len(m.V)), roll(len(m.V))))
	}
	return m
}

// stands tells whether t has an edge between two unlike places: whether it has corners at both.
func stands(t [3]api.Corner, a, b int) bool {
	is := func(place int) bool {
		return t[0].V == place || t[1].V == place || t[2].V == place
	}
	return is(a) && is(b)
}

// plain is another reading: all pairs of places are tried on all triangles, and what is reached is carried on until nothing turns.
func plain(m api.Mesh) known {
	many := len(m.Tris)
	x := known{m: m, next: make([][]int, many), parts: make([]int, many)}
	for b := range m.V {
		for a := range b {
			var tris []int
			for i, t := range m.Tris {
				if stands(t, a, b) {
					tris = append(tris, i)
				}
			}
			for _, i := range tris {
				for _, k := range tris {
					if i != k && !slices.Contains(x.next[i], k) {
						x.next[i] = append(x.next[i], k)
					}
				}
			}
			if len(tris) > 0 {
				x.edges = append(x.edges, between(a, b, tris...))
			}
		}
	}
	slices.SortStableFunc(x.edges, func(p, q api.Edge) int { return p.A - q.A })
	for i := range many {
		slices.Sort(x.next[i])
		x.parts[i] = i
	}
	for range many {
		for i := range many {
			for _, k := range x.next[i] {
				x.parts[i] = min(x.parts[i], x.parts[k])
			}
		}
	}
	return x
}

// P14.1, P14.2: rolled meshes, held against another reading.
func TestMany(t *testing.T) {
	roll := rolls(1)
	shared, apart := 0, 0
	for i := range 6000 {
		x := plain(rolled(roll))
		check(t, "rolled "+strconv.Itoa(i), x)
		for _, y := range x.edges {
			if len(y.Tris) > 1 {
				shared++
			}
		}
		for k, p := range x.parts {
			if p != k {
				apart++
			}
		}
	}
	if min(shared, apart) < 5000 {
		t.Errorf("too few of one kind: %d, %d", shared, apart)
	}
}

// P14.3: of a mesh's edges each is found, no other is, and the loose ones are those of one triangle.
func TestManyEdges(t *testing.T) {
	roll := rolls(2)
	for range 3000 {
		x := plain(rolled(roll))
		l, e := edge.Edges(x.m)
		if e != api.OK {
			t.Fatalf("Edges(%+v): %d", x.m, e)
		}
		var loose []api.Edge
		for _, y := range x.edges {
			if len(y.Tris) == 1 {
				loose = append(loose, y)
			}
		}
		if got := edge.Loose(l); !slices.EqualFunc(got, loose, isEdge) {
			t.Errorf("Loose(%v): %v", l, got)
		}
		for a := -1; a <= len(x.m.V); a++ {
			for b := -1; b <= len(x.m.V); b++ {
				i := slices.IndexFunc(x.edges, func(y api.Edge) bool { return y.A == min(a, b) && y.B == max(a, b) })
				y, ok := edge.Find(l, a, b)
				if ok != (i >= 0) || ok && !isEdge(y, x.edges[i]) {
					t.Errorf("Find(%v, %d, %d): %v, %t", l, a, b, y, ok)
				}
			}
		}
	}
}

// greatest gives right meshes with as many triangles as may be, by how these stand.
func greatest() map[string]api.Mesh {
	fan, row, alone, one := of(api.MaxVerts), of(api.MaxVerts), of(api.MaxVerts), of(api.MaxVerts)
	const last = api.MaxVerts - 1
	for i := range api.MaxTris {
		fan.Tris = append(fan.Tris, tri(last, i, last-1))
		// The last triangle of the row is the first one of all: what is least is reached from afar.
		row.Tris = append(row.Tris, tri((i*7)%api.MaxTris, (i*7)%api.MaxTris+1, (i*7)%api.MaxTris+2))
		alone.Tris = append(alone.Tris, tri(3*i, 3*i+1, 3*i+2))
		one.Tris = append(one.Tris, tri(last, last-1, last-2))
	}
	return map[string]api.Mesh{"fan": fan, "row": row, "alone": alone, "one": one}
}

// P14.1, P14.2: as many as may be: all at one edge, in a long row, alone, and all the same.
func TestGreatest(t *testing.T) {
	for name, m := range greatest() {
		l, e := edge.Edges(m)
		p, f := edge.Parts(m)
		if e != api.OK || f != api.OK || len(p) != api.MaxTris {
			t.Fatalf("%s: %d, %d, %d parts", name, e, f, len(p))
		}
		edges := map[string]int{"fan": 2*api.MaxTris + 1, "row": 2*api.MaxTris + 1, "alone": 3 * api.MaxTris, "one": 3}[name]
		if len(l) != edges {
			t.Errorf("%s: %d edges, want %d", name, len(l), edges)
		}
		for i, part := range p {
			want := 0
			if name == "alone" {
				want = i
			}
			if part != want {
				t.Errorf("%s: part of %d: %d", name, i, part)
			}
			n, e := edge.Next(m, i)
			at := (i * 7) % api.MaxTris
			most := map[string]int{"fan": api.MaxTris - 1, "row": 2, "alone": 0, "one": api.MaxTris - 1}[name]
			if name == "row" && (at == 0 || at == api.MaxTris-1) {
				most = 1
			}
			if e != api.OK || len(n) != most || !slices.IsSorted(n) || slices.Contains(n, i) {
				t.Errorf("%s: Next of %d: %v, %d", name, i, n, e)
			}
		}
	}
}

// P14.4: next is both ways, and of one part; a triangle stands in three edges at most, and next to all others of each.
func TestFollows(t *testing.T) {
	roll := rolls(3)
	meshes := []api.Mesh{}
	for range 3000 {
		meshes = append(meshes, rolled(roll))
	}
	for _, m := range append(meshes, greatest()["row"]) {
		l, _ := edge.Edges(m)
		p, _ := edge.Parts(m)
		next := make([][]int, len(m.Tris))
		for i := range next {
			next[i], _ = edge.Next(m, i)
		}
		for i := range next {
			for _, k := range next[i] {
				if !slices.Contains(next[k], i) || p[i] != p[k] {
					t.Errorf("%v: %d is next to %d, but back %v, and parts %v", m.Tris, i, k, next[k], p)
				}
			}
		}
		stand := make([]int, len(m.Tris))
		for _, x := range l {
			for _, i := range x.Tris {
				stand[i]++
				for _, k := range x.Tris {
					if i != k && !slices.Contains(next[i], k) {
						t.Errorf("%v: %d and %d have %d %d, but next to %d are %v", m.Tris, i, k, x.A, x.B, i, next[i])
					}
				}
			}
		}
		if len(stand) > 0 && slices.Max(stand) > 3 {
			t.Errorf("%v: stand in %v edges", m.Tris, stand)
		}
	}
}

// spoil overwrites all of a list, and what it could be made longer by.
func spoil(l []int) {
	l = l[:cap(l)]
	for i := range l {
		l[i] = -77
	}
}

// spoilEdges gives a copy of l, and spoils l's lists one by one: beside the spoilt ones the others stay as they are.
func spoilEdges(t *testing.T, l []api.Edge) []api.Edge {
	t.Helper()
	kept := cloneEdges(l)
	for i := range l {
		spoil(l[i].Tris)
		for k := i + 1; k < len(l); k++ {
			if !isEdge(l[k], kept[k]) {
				t.Errorf("%v shares its list with %v", kept[i], kept[k])
			}
		}
	}
	return kept
}

// R2: what is answered is new, each list for itself, and the same at each call.
func TestNew(t *testing.T) {
	for name, x := range spelt() {
		l, _ := edge.Edges(x.m)
		given := cloneEdges(l)
		spoilEdges(t, edge.Loose(l))
		for _, y := range given {
			z, _ := edge.Find(l, y.A, y.B)
			spoil(z.Tris)
		}
		if !slices.EqualFunc(l, given, isEdge) {
			t.Errorf("%s: what Loose or Find answers shares a list with the argument: %v", name, l)
		}
		spoilEdges(t, l)
		p, _ := edge.Parts(x.m)
		spoil(p)
		for i := range x.next {
			n, _ := edge.Next(x.m, i)
			spoil(n)
		}
		check(t, name+", once more", x)
	}
}
