package flat_test

import (
	"math"
	"slices"
	"strconv"
	"testing"

	"limewash/api"
	"limewash/flat"
)

// patch is a patch of places told from 0 on.
func patch(w, h int, l ...[3]api.V2) api.Patch {
	p := api.Patch{UV: l, W: w, H: h}
	for i := range l {
		p.Tris = append(p.Tris, i)
	}
	return p
}

// tiles gives a right patch of so many triangles, as large as can be: halves of squares, row by row.
func tiles(many int) api.Patch {
	const side = 256
	p := api.Patch{}
	for i := range many {
		x, y := i/2%16*side, i/2/16*side
		l := [][3]api.V2{uv(x, y, x+side, y, x, y+side), uv(x+side, y, x, y+side, x+side, y+side)}
		p.UV, p.Tris = append(p.UV, l[i%2]), append(p.Tris, i)
		p.W, p.H = max(p.W, (x+side)/16+1), max(p.H, (y+side)/16+1)
	}
	return p
}

// checkIs holds what is told of a patch against what is wanted; by R2 it stays as it is.
func checkIs(t *testing.T, name string, p api.Patch, want bool) {
	t.Helper()
	before := clone(p)
	if is := flat.Is(p); is != want {
		t.Errorf("%s: Is, of %v: %t", name, p, is)
	}
	if !same(p, before) {
		t.Errorf("%s: Is turned the patch into %v", name, p)
	}
	if !want {
		if l, e := flat.Move(p, v2(1, 1)); l != nil || e != api.ErrArg {
			t.Errorf("%s: Move, of %v: %v, %d", name, p, l, e)
		}
	}
}

// P16.3: right patches, written out.
func TestIs(t *testing.T) {
	for name, p := range map[string]api.Patch{
		"least":                          patch(1, 1, uv(0, 0, 1, 0, 0, 1)),
		"turned the other way":           patch(1, 1, uv(0, 0, 0, 1, 1, 0)),
		"up to 15":                       patch(1, 1, uv(0, 0, 15, 0, 0, 15)),
		"up to 16":                       patch(2, 1, uv(0, 0, 16, 0, 0, 15)),
		"up to 16, the other way":        patch(1, 2, uv(0, 0, 15, 0, 0, 16)),
		"greatest":                       patch(257, 257, uv(0, 0, far, 0, 0, far)),
		"long":                           patch(257, 1, uv(0, 0, far, 0, 0, 1)),
		"high":                           patch(1, 257, uv(0, 0, 1, 0, 0, far)),
		"not from 0 0 on":                patch(1, 1, uv(0, 3, 3, 0, 3, 3)),
		"least parts of several":         patch(1, 1, uv(0, 5, 1, 5, 0, 6), uv(5, 0, 6, 0, 5, 1)),
		"one edge in common":             patch(1, 1, uv(0, 0, 4, 0, 0, 4), uv(4, 4, 4, 0, 0, 4)),
		"one point in common":            patch(1, 1, uv(0, 0, 4, 0, 0, 4), uv(4, 0, 8, 0, 4, 4)),
		"a part of an edge":              patch(1, 1, uv(0, 0, 4, 0, 0, 4), uv(1, 3, 3, 1, 9, 9)),
		"one lies in the other's bounds": patch(2, 2, uv(0, 0, 16, 0, 0, 16), uv(9, 8, 9, 9, 8, 9)),
		"far from one another":           patch(257, 257, uv(0, 0, 1, 0, 0, 1), uv(far, far, far-1, far, far, far-1)),
		"one":                            tiles(1),
		"many":                           tiles(77),
		"most":                           tiles(api.MaxTris),
	} {
		checkIs(t, name, p, true)
	}
	// Which places they are is nothing of a patch's own.
	for _, tris := range [][]int{{0, 0}, {1, 0}, {-1, -5}, {math.MaxInt, math.MinInt}} {
		p := patch(1, 1, uv(0, 0, 4, 0, 0, 4), uv(4, 4, 4, 0, 0, 4))
		p.Tris = tris
		checkIs(t, "other places", p, true)
	}
}

// P16.3: patches that are not right, by one thing each.
func TestIsWrong(t *testing.T) {
	for name, p := range map[string]api.Patch{
		"nothing":                {},
		"no triangle":            patch(1, 1),
		"empty":                  {Tris: []int{}, UV: [][3]api.V2{}, W: 1, H: 1},
		"a point":                patch(1, 1, [3]api.V2{}),
		"a line":                 patch(1, 1, uv(0, 0, 1, 1, 2, 2)),
		"one of two is a line":   patch(1, 1, uv(0, 0, 4, 0, 0, 4), uv(4, 4, 4, 4, 0, 9)),
		"a line ahead":           patch(1, 1, uv(4, 4, 4, 4, 0, 9), uv(0, 0, 4, 0, 0, 4)),
		"from X 1 on":            patch(1, 1, uv(1, 0, 2, 0, 1, 1)),
		"from Y 1 on":            patch(1, 1, uv(0, 1, 1, 1, 0, 2)),
		"from X -1 on":           patch(1, 1, uv(-1, 0, 2, 0, 1, 1)),
		"from Y -1 on":           patch(1, 1, uv(0, -1, 1, 1, 0, 2)),
		"from X -1 on, and 0":    patch(1, 1, uv(0, 0, 1, 0, 0, 1), uv(-1, 0, 0, 0, -1, 1)),
		"up to X 4097":           patch(257, 1, uv(0, 0, far+1, 0, 0, 1)),
		"up to Y 4097":           patch(1, 257, uv(0, 0, 1, 0, 0, far+1)),
		"the second one too far": patch(257, 1, uv(0, 0, 1, 0, 0, 1), uv(9, 0, far+1, 0, 9, 1)),
		"one twice":              patch(1, 1, uv(0, 0, 4, 0, 0, 4), uv(0, 0, 4, 0, 0, 4)),
		"one twice, turned":      patch(1, 1, uv(0, 0, 4, 0, 0, 4), uv(0, 4, 4, 0, 0, 0)),
		"one in the other":       patch(1, 1, uv(0, 0, 9, 0, 0, 9), uv(1, 1, 2, 1, 1, 2)),
		"one in the one ahead":   patch(1, 1, uv(1, 1, 2, 1, 1, 2), uv(0, 0, 9, 0, 0, 9)),
		"a corner is within":     patch(1, 1, uv(0, 0, 4, 0, 0, 4), uv(4, 4, 4, 3, 1, 2)),
		"crossed as a star":      patch(1, 1, uv(0, 2, 9, 2, 4, 11), uv(0, 8, 9, 8, 4, 0)),
		"the last two overlap":   patch(1, 1, uv(0, 0, 1, 0, 0, 1), uv(5, 5, 9, 5, 5, 9), uv(6, 6, 7, 6, 6, 9)),
		"501":                    tiles(api.MaxTris + 1),
		"512":                    tiles(512),
	} {
		checkIs(t, name, p, false)
	}
	for _, n := range append(outside(), -1) {
		for i := range 6 {
			p := patch(2, 2, uv(0, 0, 16, 0, 0, 16), uv(16, 16, 20, 16, 16, 20))
			p.UV[i/3][i%3].X = n
			checkIs(t, "X "+strconv.Itoa(n), p, false)
			p = patch(2, 2, uv(0, 0, 16, 0, 0, 16), uv(16, 16, 20, 16, 16, 20))
			p.UV[i/3][i%3].Y = n
			checkIs(t, "Y "+strconv.Itoa(n), p, false)
		}
	}
}

// P16.3: W, H, and how many Tris and UV there are, changed by some.
func TestIsChanged(t *testing.T) {
	for _, p := range []api.Patch{patch(1, 1, uv(0, 0, 1, 0, 0, 1)), patch(3, 2, uv(0, 0, 40, 0, 0, 20), uv(40, 0, 0, 20, 40, 20)), patch(257, 1, uv(0, 0, far, 0, 0, 1)), tiles(77), tiles(api.MaxTris)} {
		for _, n := range []int{-1, 1, -2, 2, 16, -p.W, -p.W * 2, 1 << 32, math.MinInt, math.MaxInt - p.W - p.H} {
			for _, by := range [][2]int{{n, 0}, {0, n}, {n, n}} {
				x := clone(p)
				x.W, x.H = x.W+by[0], x.H+by[1]
				checkIs(t, "of another size", x, false)
			}
		}
		if p.W != p.H {
			x := clone(p)
			x.W, x.H = p.H, p.W
			checkIs(t, "W and H changed", x, false)
		}
		x := clone(p)
		x.Tris = x.Tris[1:]
		checkIs(t, "fewer Tris", x, false)
		x.Tris = append(x.Tris, 8, 9)
		checkIs(t, "more Tris", x, false)
		x.Tris = nil
		checkIs(t, "no Tris", x, false)
		x = clone(p)
		x.UV = nil
		checkIs(t, "no UV", x, false)
		x = clone(p)
		last := len(x.UV) - 1
		x.UV = append(x.UV, x.UV[last])
		checkIs(t, "more UV", x, false)
		x.Tris = append(x.Tris, 9)
		checkIs(t, "the last one twice", x, false)
	}
}

// plainPatch is another reading of what a right patch is.
func plainPatch(p api.Patch) bool {
	if len(p.Tris) > 500 || len(p.UV) != len(p.Tris) || len(p.UV) < 1 {
		return false
	}
	var xs, ys []int
	for i, a := range p.UV {
		for _, q := range a {
			xs, ys = append(xs, q.X), append(ys, q.Y)
		}
		if plainArea(a) == 0 || slices.ContainsFunc(p.UV[:i], func(b [3]api.V2) bool { return plainOverlap(a, b) }) {
			return false
		}
	}
	return slices.Min(xs) == 0 && slices.Min(ys) == 0 && slices.Max(xs) <= 4096 && slices.Max(ys) <= 4096 && p.W == slices.Max(xs)/16+1 && p.H == slices.Max(ys)/16+1
}

// plainArea is twice the area of a triangle, below 0 if it turns to the other side: what its sides cut off from 0, one after another.
func plainArea(t [3]api.V2) int {
	return t[0].X*t[1].Y - t[1].X*t[0].Y + t[1].X*t[2].Y - t[2].X*t[1].Y + t[2].X*t[0].Y - t[0].X*t[2].Y
}

// span is from where to where a triangle is seen along a way.
func span(s [3]api.V2, way api.V2) (int, int) {
	a, b, c := s[0].X*way.X+s[0].Y*way.Y, s[1].X*way.X+s[1].Y*way.Y, s[2].X*way.X+s[2].Y*way.Y
	return min(a, b, c), max(a, b, c)
}

// plainOverlap is another reading: seen along what is square to each edge of both there is no room between them.
func plainOverlap(a, b [3]api.V2) bool {
	for _, s := range [][3]api.V2{a, b} {
		for i := range s {
			from, to := s[i], s[(i+1)%3]
			way := v2(to.Y-from.Y, from.X-to.X)
			low, high := span(a, way)
			least, most := span(b, way)
			if high <= least || most <= low {
				return false
			}
		}
	}
	return true
}

// rolledPatch gives some triangles of a lattice, few of which overlap, as a patch that is most often right in all else.
func rolledPatch(roll func(n int) int) api.Patch {
	reach := []int{3, 8, 40, far}[roll(4)]
	p := api.Patch{}
	for range 1 + roll(4) {
		var x [3]api.V2
		for k := range x {
			x[k] = v2(roll(reach+1), roll(reach+1))
		}
		// Most go on from a side of one that is there, to its other side or to its own.
		if len(p.UV) > 0 && roll(3) > 0 {
			a := p.UV[roll(len(p.UV))]
			x[0], x[1] = a[roll(3)], a[roll(3)]
		}
		p.UV, p.Tris = append(p.UV, x), append(p.Tris, roll(9))
	}
	low, high, _ := flat.Box(p.UV...)
	if roll(9) == 0 {
		low = v2(roll(2), roll(2))
	}
	for i := range p.UV {
		for k := range p.UV[i] {
			p.UV[i][k] = v2(p.UV[i][k].X-low.X, p.UV[i][k].Y-low.Y)
		}
	}
	p.W, p.H = (high.X-low.X)/16+1, (high.Y-low.Y)/16+1
	return p
}

// P16.3: rolled patches, held against another reading.
func TestIsMany(t *testing.T) {
	roll := rolls(2)
	yes, no := 0, 0
	for range 40000 {
		p := rolledPatch(roll)
		want := plainPatch(p)
		checkIs(t, "rolled", p, want)
		if want && len(p.UV) > 1 {
			yes++
		} else if !want {
			no++
		}
	}
	if yes < 2000 || no < 2000 {
		t.Errorf("too few of one kind: %d, %d", yes, no)
	}
}

// P16.3: tiles of which one corner is moved by a step: what stays right, held against another reading.
func TestIsTiles(t *testing.T) {
	roll := rolls(3)
	yes, no := 0, 0
	for range 600 {
		p := tiles(3 + roll(60))
		q := &p.UV[roll(len(p.UV))][roll(3)]
		q.X, q.Y = q.X+roll(3)-1, q.Y+roll(3)-1
		want := plainPatch(p)
		checkIs(t, "moved tiles", p, want)
		if want {
			yes++
		} else {
			no++
		}
	}
	if yes < 100 || no < 100 {
		t.Errorf("too few of one kind: %d, %d", yes, no)
	}
}

// P16.3: right patches that are moved, along each way by itself.
func TestMove(t *testing.T) {
	one, two := patch(1, 1, uv(0, 0, 4, 0, 0, 5)), patch(257, 257, uv(0, 0, 1, 0, 0, 1), uv(far, far, 0, far, far, 0))
	for _, x := range []struct {
		p    api.Patch
		by   api.V2
		want [][3]api.V2
	}{
		{one, v2(0, 0), [][3]api.V2{uv(0, 0, 4, 0, 0, 5)}}, {one, v2(1, 0), [][3]api.V2{uv(1, 0, 5, 0, 1, 5)}}, {one, v2(0, 1), [][3]api.V2{uv(0, 1, 4, 1, 0, 6)}}, {one, v2(48, 320), [][3]api.V2{uv(48, 320, 52, 320, 48, 325)}},
		{one, v2(65536, 0), [][3]api.V2{uv(65536, 0, 65540, 0, 65536, 5)}}, {one, v2(0, 65536), [][3]api.V2{uv(0, 65536, 4, 65536, 0, 65541)}}, {one, v2(65535, 65536), [][3]api.V2{uv(65535, 65536, 65539, 65536, 65535, 65541)}},
		{two, v2(7, 9), [][3]api.V2{uv(7, 9, 8, 9, 7, 10), uv(4103, 4105, 7, 4105, 4103, 9)}}, {two, v2(65536, 65536), [][3]api.V2{uv(65536, 65536, 65537, 65536, 65536, 65537), uv(69632, 69632, 65536, 69632, 69632, 65536)}},
	} {
		before := clone(x.p)
		if l, e := flat.Move(x.p, x.by); !slices.Equal(l, x.want) || e != api.OK {
			t.Errorf("Move of %v by %v: %v, %d, want %v", x.p, x.by, l, e, x.want)
		}
		if !same(x.p, before) {
			t.Errorf("Move turned the patch into %v", x.p)
		}
	}
}

// P16.3: ways that are too far, or go back; of a patch that is not right that is told first.
func TestMoveWrong(t *testing.T) {
	p := tiles(9)
	for _, n := range []int{-1, -2, -far, 65537, 65538, 1 << 32, 1<<32 + 1, math.MaxInt, math.MinInt} {
		for _, by := range []api.V2{v2(n, 0), v2(0, n), v2(n, 65536), v2(65536, n), v2(n, n)} {
			if l, e := flat.Move(p, by); l != nil || e != api.ErrRange {
				t.Errorf("Move by %v: %v, %d", by, l, e)
			}
			for _, x := range []api.Patch{{}, patch(2, 1, uv(0, 0, 1, 0, 0, 1)), patch(1, 1, [3]api.V2{}), tiles(501)} {
				if l, e := flat.Move(x, by); l != nil || e != api.ErrArg {
					t.Errorf("Move of %v by %v: %v, %d", x, by, l, e)
				}
			}
		}
	}
}

// R2: what is answered is new, what lies behind the arguments stays as it is, and the same call answers the same.
func TestNew(t *testing.T) {
	mark := uv(7, 7, 7, 7, 7, 7)
	p := tiles(20)
	p.UV = append(p.UV, mark, mark, mark)[:20]
	p.Tris = append(p.Tris, -77, -77)[:20]
	before := clone(p)
	l, _ := flat.Move(p, v2(0, 0))
	for i := range l[:cap(l)] {
		l[:cap(l)][i] = uv(1, 2, 3, 4, 5, 6)
	}
	flat.Is(p)
	flat.Box(p.UV...)
	if !same(p, before) || p.UV[:21][20] != mark || p.Tris[:21][20] != -77 {
		t.Errorf("the patch is turned into %v", p)
	}
	if l, _ := flat.Move(p, v2(0, 0)); !slices.Equal(l, p.UV) {
		t.Errorf("Move, once more: %v", l)
	}
	for name, x := range spelt() {
		x.c.Tris = append(slices.Clone(x.c.Tris), -77, -77)[:len(x.c.Tris)]
		p, _ := flat.Lay(x.m, x.c, x.density)
		for i := range p.Tris[:cap(p.Tris)] {
			p.Tris[:cap(p.Tris)][i] = -5
		}
		for i := range p.UV[:cap(p.UV)] {
			p.UV[:cap(p.UV)][i] = mark
		}
		checkLay(t, name+", once more", x)
		if x.c.Tris[:len(x.c.Tris)+1][len(x.c.Tris)] != -77 {
			t.Errorf("%s: what lies behind the chart is turned into %v", name, x.c.Tris[:cap(x.c.Tris)])
		}
	}
}
