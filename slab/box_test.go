package slab_test

import (
	"math"
	"slices"
	"testing"

	"limewash/api"
	"limewash/slab"
)

const most = api.MaxSmall

func v3(x, y, z int) api.V3 {
	return api.V3{X: x, Y: y, Z: z}
}

func box(low, high api.V3) api.Box {
	return api.Box{Low: low, High: high}
}

// cube is the document's box.
func cube() api.Box {
	return box(v3(0, 0, 0), v3(4, 4, 4))
}

// great is the greatest box there is.
func great() api.Box {
	return box(v3(-most, -most, -most), v3(most, most, most))
}

// rolls gives numbers that look like chance, the same at each run.
func rolls(seed uint64) func(n int) int {
	return func(n int) int {
		seed = seed*6364136223846793005 + 1442695040888963407
		return int((seed >> 33) % uint64(n))
	}
}

// spaces gives rows of n points whose parts are rolled; close ones make many that are level or the same.
func spaces(seed uint64, n, rows, greatest int) [][]api.V3 {
	roll := rolls(seed)
	var l [][]api.V3
	for i := range rows {
		reach := []int{1, 2, 9, greatest}[i%4]
		row := make([]api.V3, n)
		for k := range row {
			row[k] = v3(roll(2*reach+1)-reach, roll(2*reach+1)-reach, roll(2*reach+1)-reach)
		}
		l = append(l, row)
	}
	return l
}

// fars gives points that are not small: by one part, by two, or by all.
func fars() []api.V3 {
	var l []api.V3
	for _, n := range []int{-most - 1, most + 1, -2 * most, 2 * most, api.MaxPart, 1 << 32, 1<<32 + 1, -1 << 32, math.MinInt, math.MinInt + 1, math.MaxInt} {
		l = append(l, v3(n, 0, 0), v3(0, n, 0), v3(0, 0, n), v3(n, n, 1), v3(n, -1, n), v3(most, n, n), v3(n, n, n))
	}
	return l
}

// wrongs gives boxes that are not right: by a point that is not small, whichever it is, or by Low above High along an axis.
func wrongs() []api.Box {
	var l []api.Box
	for _, far := range fars() {
		l = append(l, box(far, v3(most, most, most)), box(v3(-most, -most, -most), far), box(far, far))
	}
	for _, n := range []int{1, 5, most} {
		for axis := range 3 {
			l = append(l, box(with(v3(0, 0, 0), axis, n), with(v3(9, 9, 9), axis, n-1)), box(with(v3(-most, -most, -most), axis, most), with(v3(most, most, most), axis, most-n)))
		}
		l = append(l, box(v3(n, n, n), v3(0, 0, 0)), box(v3(n, 0, n), v3(0, 0, 0)))
	}
	return l
}

// part gives a's part along an axis.
func part(a api.V3, axis int) int {
	return [3]int{a.X, a.Y, a.Z}[axis]
}

// with gives a with its part along an axis set to n.
func with(a api.V3, axis, n int) api.V3 {
	p := [3]int{a.X, a.Y, a.Z}
	p[axis] = n
	return v3(p[0], p[1], p[2])
}

// plus gives a and so many times b, part by part.
func plus(a api.V3, times int, b api.V3) api.V3 {
	return v3(a.X+times*b.X, a.Y+times*b.Y, a.Z+times*b.Z)
}

// plainBox is another reading of Of: along each axis the ends of the sorted parts.
func plainBox(l []api.V3) api.Box {
	b := api.Box{}
	for axis := range 3 {
		var all []int
		for _, p := range l {
			all = append(all, part(p, axis))
		}
		slices.Sort(all)
		b.Low, b.High = with(b.Low, axis, all[0]), with(b.High, axis, all[len(all)-1])
	}
	return b
}

// plainHas is another reading of Has, of a right box: no axis along which p stands outside.
func plainHas(b api.Box, p api.V3) bool {
	return !(p.X < b.Low.X || p.X > b.High.X || p.Y < b.Low.Y || p.Y > b.High.Y || p.Z < b.Low.Z || p.Z > b.High.Z)
}

// boxes gives rolled right boxes, some of them with no more room than a face, an edge or a point.
func boxes(seed uint64, rows int) []api.Box {
	var l []api.Box
	for _, p := range spaces(seed, 2, rows, most) {
		l = append(l, plainBox(p))
	}
	return l
}

// rights gives right boxes at the edges.
func rights() []api.Box {
	return []api.Box{{}, cube(), great(), box(v3(most, most, most), v3(most, most, most)), box(v3(-most, -most, -most), v3(-most, -most, -most)), box(v3(-most, 0, most), v3(-most, 0, most)), box(v3(-3, -2, -1), v3(-3, -1, most)), box(v3(-most, 5, 0), v3(most, 5, 0)), box(v3(0, 0, most-1), v3(0, 0, most))}
}

// P13.1: Is of ordinary ones, of those at the edges, and of wrong ones.
func TestIs(t *testing.T) {
	for _, b := range append(rights(), boxes(1, 4000)...) {
		if !slab.Is(b) {
			t.Errorf("Is(%+v): false", b)
		}
	}
	for _, b := range wrongs() {
		if slab.Is(b) {
			t.Errorf("Is(%+v): true", b)
		}
	}
	for _, b := range boxes(2, 4000) {
		if turned := box(b.High, b.Low); slab.Is(turned) != (turned == b) {
			t.Errorf("Is(%+v): %t", turned, slab.Is(turned))
		}
	}
}

// checkOf holds Of against what is wanted; by R2 the row stays as it is.
func checkOf(t *testing.T, l []api.V3, want api.Box, code api.Errno) {
	t.Helper()
	before := slices.Clone(l)
	b, e := slab.Of(l...)
	if b != want || e != code {
		t.Errorf("Of(%+v): %+v, %d, want %+v, %d", l, b, e, want, code)
	}
	if !slices.Equal(l, before) {
		t.Errorf("Of(%+v): the row is changed into %+v", before, l)
	}
}

// P13.1: Of none, of one, of the same ones, of several whose ends stand anywhere in the row, and of the greatest ones.
func TestOfTable(t *testing.T) {
	for _, x := range []struct {
		l    []api.V3
		want api.Box
	}{
		{[]api.V3{v3(0, 0, 0)}, api.Box{}}, {[]api.V3{v3(3, -4, 5)}, box(v3(3, -4, 5), v3(3, -4, 5))}, {[]api.V3{v3(3, -4, 5), v3(3, -4, 5)}, box(v3(3, -4, 5), v3(3, -4, 5))},
		{[]api.V3{v3(1, 2, 3), v3(4, 5, 6)}, box(v3(1, 2, 3), v3(4, 5, 6))}, {[]api.V3{v3(4, 5, 6), v3(1, 2, 3)}, box(v3(1, 2, 3), v3(4, 5, 6))}, {[]api.V3{v3(4, 2, 6), v3(1, 5, 3)}, box(v3(1, 2, 3), v3(4, 5, 6))},
		{[]api.V3{v3(1, 5, -2), v3(4, -3, 0), v3(2, 2, 2)}, box(v3(1, -3, -2), v3(4, 5, 2))}, {[]api.V3{v3(5, 5, 5), v3(7, 6, 9), v3(6, 8, 7)}, box(v3(5, 5, 5), v3(7, 8, 9))}, {[]api.V3{v3(-5, -5, -5), v3(-7, -6, -9), v3(-6, -8, -7)}, box(v3(-7, -8, -9), v3(-5, -5, -5))},
		{[]api.V3{v3(most, most, most)}, box(v3(most, most, most), v3(most, most, most))}, {[]api.V3{v3(most, -most, most), v3(-most, most, -most)}, great()}, {[]api.V3{v3(0, most, 0), v3(-most, 0, 1)}, box(v3(-most, 0, 0), v3(0, most, 1))},
	} {
		checkOf(t, x.l, x.want, api.OK)
	}
	checkOf(t, nil, api.Box{}, api.ErrArg)
	checkOf(t, []api.V3{}, api.Box{}, api.ErrArg)
}

// P13.1: Of rolled rows of all lengths, held against another reading.
func TestOfMany(t *testing.T) {
	roll := rolls(3)
	for _, p := range spaces(4, 40, 4000, most) {
		l := p[:1+roll(len(p))]
		checkOf(t, l, plainBox(l), api.OK)
	}
}

// P13.1: Of, if one is not small, wherever it stands; beside an error all else is zero.
func TestOfWrong(t *testing.T) {
	l := spaces(5, 12, 4, most)[3]
	for _, far := range fars() {
		for i := range len(l) + 1 {
			checkOf(t, slices.Insert(slices.Clone(l), i, far), api.Box{}, api.ErrRange)
		}
		checkOf(t, []api.V3{far}, api.Box{}, api.ErrRange)
		checkOf(t, []api.V3{far, far}, api.Box{}, api.ErrRange)
	}
}

// P13.1: Join, spelt out: the same ones, one in the other, apart, crossing, and the greatest one.
func TestJoinTable(t *testing.T) {
	for _, x := range []struct{ a, b, want api.Box }{
		{cube(), cube(), cube()}, {cube(), box(v3(1, 1, 1), v3(2, 2, 2)), cube()}, {api.Box{}, cube(), cube()}, {api.Box{}, api.Box{}, api.Box{}},
		{cube(), box(v3(7, 7, 7), v3(8, 9, 10)), box(v3(0, 0, 0), v3(8, 9, 10))}, {cube(), box(v3(-7, -8, -9), v3(-6, -6, -6)), box(v3(-7, -8, -9), v3(4, 4, 4))}, {cube(), box(v3(-9, 2, 2), v3(9, 3, 3)), box(v3(-9, 0, 0), v3(9, 4, 4))}, {cube(), box(v3(2, -1, 7), v3(6, 3, 7)), box(v3(0, -1, 0), v3(6, 4, 7))},
		{great(), cube(), great()}, {box(v3(most, most, most), v3(most, most, most)), box(v3(-most, -most, -most), v3(-most, -most, -most)), great()},
	} {
		checkJoin(t, x.a, x.b, x.want)
	}
}

// checkJoin holds Join against what is wanted, both ways round.
func checkJoin(t *testing.T, a, b, want api.Box) {
	t.Helper()
	c, e := slab.Join(a, b)
	d, f := slab.Join(b, a)
	if c != want || d != want || e != api.OK || f != api.OK {
		t.Errorf("Join of %+v and %+v: %+v, %d, back %+v, %d, want %+v", a, b, c, e, d, f, want)
	}
}

// P13.1: Join of rolled ones, held against the box of all eight corners of both.
func TestJoinMany(t *testing.T) {
	l := append(rights(), boxes(6, 4000)...)
	for i, a := range l {
		for _, b := range []api.Box{l[(i+1)%len(l)], l[(i+4)%len(l)], a} {
			var all []api.V3
			for n := range 8 {
				for _, x := range []api.Box{a, b} {
					all = append(all, corner(x, n))
				}
			}
			checkJoin(t, a, b, plainBox(all))
		}
	}
}

// corner gives one of b's eight corners.
func corner(b api.Box, n int) api.V3 {
	p := b.Low
	for axis := range 3 {
		if n>>axis&1 == 1 {
			p = with(p, axis, part(b.High, axis))
		}
	}
	return p
}

// P13.1: Join, Longest and Has of wrong boxes; beside an error all else is zero.
func TestWrongBoxes(t *testing.T) {
	l := wrongs()
	for i, b := range l {
		for _, a := range append(rights(), l[(i+1)%len(l)], b) {
			c, e := slab.Join(a, b)
			d, f := slab.Join(b, a)
			if c != (api.Box{}) || d != (api.Box{}) || e != api.ErrArg || f != api.ErrArg {
				t.Errorf("Join of %+v and %+v: %+v, %d, back %+v, %d", a, b, c, e, d, f)
			}
		}
		if axis, e := slab.Longest(b); axis != 0 || e != api.ErrArg {
			t.Errorf("Longest(%+v): %d, %d", b, axis, e)
		}
		for _, p := range []api.V3{b.Low, b.High, {}, v3(1, 1, 1), v3(most, most, most)} {
			if slab.Has(b, p) {
				t.Errorf("Has(%+v, %+v): true", b, p)
			}
		}
	}
}

// P13.1: Has of the corners, faces and inside of right boxes, and one step beyond each face.
func TestHasEdges(t *testing.T) {
	for _, b := range append(rights(), boxes(7, 2000)...) {
		middle := v3((b.Low.X+b.High.X)/2, (b.Low.Y+b.High.Y)/2, (b.Low.Z+b.High.Z)/2)
		if !slab.Has(b, middle) {
			t.Errorf("Has(%+v, %+v): false", b, middle)
		}
		for n := range 8 {
			p := corner(b, n)
			if !slab.Has(b, p) {
				t.Errorf("Has(%+v, %+v): false", b, p)
			}
			for axis := range 3 {
				for _, q := range []api.V3{p, middle} {
					below, above := with(q, axis, part(b.Low, axis)-1), with(q, axis, part(b.High, axis)+1)
					if slab.Has(b, below) || slab.Has(b, above) {
						t.Errorf("Has(%+v) of %+v and %+v: %t, %t", b, below, above, slab.Has(b, below), slab.Has(b, above))
					}
				}
			}
		}
		for _, far := range fars() {
			if slab.Has(b, far) {
				t.Errorf("Has(%+v, %+v): true", b, far)
			}
		}
	}
}

// P13.1: Has of rolled points, held against another reading.
func TestHasMany(t *testing.T) {
	found := [2]int{}
	l := boxes(8, 8000)
	for i, p := range spaces(9, 3, 8000, most) {
		for _, q := range p {
			want := plainHas(l[i], q)
			if want {
				found[1]++
			} else {
				found[0]++
			}
			if slab.Has(l[i], q) != want {
				t.Errorf("Has(%+v, %+v): %t", l[i], q, !want)
			}
		}
	}
	if min(found[0], found[1]) < 2000 {
		t.Errorf("too few of one kind: %v", found)
	}
}

// P13.1: Longest: by each axis alone, of several the first one, of boxes anywhere, and at the edges.
func TestLongestTable(t *testing.T) {
	for _, x := range []struct {
		b    api.Box
		want int
	}{
		{api.Box{}, 0}, {cube(), 0}, {great(), 0}, {box(v3(most, most, most), v3(most, most, most)), 0},
		{box(v3(0, 0, 0), v3(2, 1, 1)), 0}, {box(v3(0, 0, 0), v3(1, 2, 1)), 1}, {box(v3(0, 0, 0), v3(1, 1, 2)), 2}, {box(v3(0, 0, 0), v3(1, 2, 2)), 1}, {box(v3(0, 0, 0), v3(2, 1, 2)), 0}, {box(v3(0, 0, 0), v3(2, 2, 1)), 0}, {box(v3(0, 0, 0), v3(1, 2, 3)), 2}, {box(v3(0, 0, 0), v3(2, 3, 1)), 1}, {box(v3(0, 0, 0), v3(0, 0, 1)), 2},
		{box(v3(90, -9, -1), v3(91, -7, 0)), 1}, {box(v3(-9, 5, 0), v3(-7, 6, 3)), 2}, {box(v3(-9, -5, 50), v3(-1, 2, 51)), 0}, {box(v3(1-most, -most, -most), v3(most, most, most)), 1}, {box(v3(1-most, -most, -most), v3(most, most-1, most)), 2}, {box(v3(-most, -most, -most), v3(most-1, most-1, most-1)), 0},
	} {
		if n, e := slab.Longest(x.b); n != x.want || e != api.OK {
			t.Errorf("Longest(%+v): %d, %d, want %d", x.b, n, e, x.want)
		}
	}
}

// P13.1: Longest of rolled ones: those ahead are shorter, those behind no longer.
func TestLongestMany(t *testing.T) {
	found := [3]int{}
	for _, b := range boxes(10, 8000) {
		n, e := slab.Longest(b)
		if e != api.OK || n < 0 || n > 2 {
			t.Fatalf("Longest(%+v): %d, %d", b, n, e)
		}
		found[n]++
		for axis := range 3 {
			more := part(b.High, axis) - part(b.Low, axis) - part(b.High, n) + part(b.Low, n)
			if more > 0 || more == 0 && axis < n {
				t.Errorf("Longest(%+v): %d, but along %d", b, n, axis)
			}
		}
	}
	if min(found[0], found[1], found[2]) < 500 {
		t.Errorf("too few of one kind: %v", found)
	}
}
