package sign_test

import (
	"math"
	"math/big"
	"slices"
	"testing"

	"limewash/api"
	"limewash/sign"
	"limewash/vec"
)

const (
	flat = api.MaxUV
	room = api.MaxSmall
)

func v2(x, y int) api.V2 {
	return api.V2{X: x, Y: y}
}

func v3(x, y, z int) api.V3 {
	return api.V3{X: x, Y: y, Z: z}
}

// rolls gives numbers that look like chance, the same at each run.
func rolls(seed uint64) func(n int) int {
	return func(n int) int {
		seed = seed*6364136223846793005 + 1442695040888963407
		return int((seed >> 33) % uint64(n))
	}
}

// reaches gives how far from 0 the parts of points are rolled: close ones make many that are level or the same.
func reaches(most int) []int {
	return []int{1, 2, 9, most}
}

// planes gives rows of n small points in a plane, rolled.
func planes(n, rows int) [][]api.V2 {
	roll := rolls(uint64(n))
	var l [][]api.V2
	for i := range rows {
		reach := reaches(flat)[i%4]
		row := make([]api.V2, n)
		for k := range row {
			row[k] = v2(roll(2*reach+1)-reach, roll(2*reach+1)-reach)
		}
		l = append(l, row)
	}
	return l
}

// spaces gives rows of n small points in space, rolled.
func spaces(n, rows int) [][]api.V3 {
	roll := rolls(uint64(n) + 100)
	var l [][]api.V3
	for i := range rows {
		reach := reaches(room)[i%4]
		row := make([]api.V3, n)
		for k := range row {
			row[k] = v3(roll(2*reach+1)-reach, roll(2*reach+1)-reach, roll(2*reach+1)-reach)
		}
		l = append(l, row)
	}
	return l
}

// outside gives parts that no small point has, if most is the greatest one that it can have.
func outside(most int) []int {
	return []int{-most - 1, most + 1, -2 * most, 2 * most, 1 << 20, 1 << 32, -1 << 32, 1<<32 + 1, math.MinInt, math.MinInt + 1, math.MaxInt}
}

// fars2 gives points in a plane that are not small: by one part, or by both.
func fars2() []api.V2 {
	var l []api.V2
	for _, n := range outside(flat) {
		l = append(l, v2(n, 0), v2(0, n), v2(n, flat), v2(-flat, n), v2(n, n))
	}
	return l
}

// fars3 gives points in space that are not small: by one part, by two, or by all.
func fars3() []api.V3 {
	var l []api.V3
	for _, n := range outside(room) {
		l = append(l, v3(n, 0, 0), v3(0, n, 0), v3(0, 0, n), v3(n, n, 1), v3(n, -1, n), v3(room, n, n), v3(n, n, n))
	}
	return l
}

// sums gives the sum of the products of every three that follow one another, by math/big.
func sums(n ...int) int {
	sum := new(big.Int)
	for i := 0; i < len(n); i += 3 {
		x := new(big.Int).Mul(big.NewInt(int64(n[i])), big.NewInt(int64(n[i+1])))
		sum.Add(sum, x.Mul(x, big.NewInt(int64(n[i+2]))))
	}
	return int(sum.Int64())
}

// plainArea is Area by its three corners one after another: round a triangle, what each side cuts off from 0.
func plainArea(a, b, c api.V2) int {
	return a.X*b.Y - b.X*a.Y + b.X*c.Y - c.X*b.Y + c.X*a.Y - a.X*c.Y
}

// plainNormal is Normal by plainArea of what is seen along each axis.
func plainNormal(a, b, c api.V3) api.V3 {
	return v3(
		plainArea(v2(a.Y, a.Z), v2(b.Y, b.Z), v2(c.Y, c.Z)),
		plainArea(v2(a.Z, a.X), v2(b.Z, b.X), v2(c.Z, c.X)),
		plainArea(v2(a.X, a.Y), v2(b.X, b.Y), v2(c.X, c.Y)),
	)
}

// plainVolume is Volume as the determinant of the ways from d, by math/big.
func plainVolume(a, b, c, d api.V3) int {
	p, q, r := vec.Sub3(a, d), vec.Sub3(b, d), vec.Sub3(c, d)
	return -sums(p.X, q.Y, r.Z, p.Y, q.Z, r.X, p.Z, q.X, r.Y, -p.Z, q.Y, r.X, -p.X, q.Z, r.Y, -p.Y, q.X, r.Z)
}

// sideOf gives -1, 0 or 1.
func sideOf(n int) int {
	switch {
	case n < 0:
		return -1
	case n > 0:
		return 1
	}
	return 0
}

// P9.1: Small2 and Small3 of one: ordinary ones, the edges, and those beyond.
func TestSmallOne(t *testing.T) {
	for _, x := range []int{-flat, 1 - flat, -3, 0, 1, flat - 1, flat} {
		for _, y := range []int{-flat, 0, 5, flat} {
			if !sign.Small2(v2(x, y)) || !sign.Small2(v2(y, x)) {
				t.Errorf("Small2(%d %d): false", x, y)
			}
		}
	}
	for _, x := range []int{-room, 1 - room, -3, 0, 1, flat + 1, room - 1, room} {
		for _, y := range []int{-room, 0, 5, room} {
			if !sign.Small3(v3(x, y, -y)) || !sign.Small3(v3(y, x, y)) || !sign.Small3(v3(-y, y, x)) {
				t.Errorf("Small3 of %d and %d: false", x, y)
			}
		}
	}
	for _, a := range fars2() {
		if sign.Small2(a) {
			t.Errorf("Small2(%+v): true", a)
		}
	}
	for _, a := range fars3() {
		if sign.Small3(a) {
			t.Errorf("Small3(%+v): true", a)
		}
	}
}

// P9.1: Small2 and Small3 of none, of many, and of many of which one is not small, wherever it stands; R2: the row stays as it is.
func TestSmallMany(t *testing.T) {
	plane, space := planes(40, 4)[3], spaces(40, 4)[3]
	if !sign.Small2() || !sign.Small3() || !sign.Small2([]api.V2{}...) || !sign.Small3([]api.V3{}...) {
		t.Error("of none: false")
	}
	if !sign.Small2(plane...) || !sign.Small3(space...) {
		t.Error("of many: false")
	}
	for i := range len(plane) + 1 {
		l, m := slices.Insert(slices.Clone(plane), i, v2(0, flat+1)), slices.Insert(slices.Clone(space), i, v3(0, -room-1, 0))
		before, ahead := slices.Clone(l), slices.Clone(m)
		if sign.Small2(l...) || sign.Small3(m...) {
			t.Errorf("with one at %d that is not small: true", i)
		}
		if !slices.Equal(l, before) || !slices.Equal(m, ahead) {
			t.Errorf("with one at %d: the row is changed", i)
		}
	}
}

// P9.1: Area and Side, spelt out, with the document's examples.
func TestAreaTable(t *testing.T) {
	for _, x := range []struct {
		a, b, c api.V2
		want    int
	}{
		{v2(0, 0), v2(2, 0), v2(0, 3), 6}, {v2(0, 0), v2(0, 1), v2(1, 0), -1}, {v2(0, 0), v2(1, 0), v2(0, 1), 1}, {v2(5, 6), v2(7, 6), v2(5, 9), 6},
		{v2(0, 0), v2(1, 1), v2(7, 7), 0}, {v2(-2, 3), v2(-2, 3), v2(9, 9), 0}, {v2(1, 2), v2(3, 4), v2(1, 2), 0}, {v2(4, 4), v2(4, 4), v2(4, 4), 0}, {v2(1, 2), v2(4, 8), v2(2, 4), 0},
		{v2(1, 2), v2(3, 5), v2(-4, 7), 25}, {v2(-flat, -flat), v2(flat, -flat), v2(-flat, flat), 4 * flat * flat}, {v2(-flat, -flat), v2(-flat, flat), v2(flat, flat), -4 * flat * flat},
		{v2(-flat, -flat), v2(flat, flat), v2(flat-1, flat), 2 * flat}, {v2(-flat, -flat), v2(flat, flat), v2(flat, flat-1), -2 * flat}, {v2(-flat, -flat), v2(flat, flat), v2(0, 0), 0},
		{v2(-flat, -flat), v2(flat, flat-1), v2(flat-1, flat-2), -1},
	} {
		if n, e := sign.Area(x.a, x.b, x.c); n != x.want || e != api.OK {
			t.Errorf("Area(%+v, %+v, %+v): %d, %d, want %d", x.a, x.b, x.c, n, e, x.want)
		}
		if n, e := sign.Side(x.a, x.b, x.c); n != sideOf(x.want) || e != api.OK {
			t.Errorf("Side(%+v, %+v, %+v): %d, %d, want the side of %d", x.a, x.b, x.c, n, e, x.want)
		}
	}
}

// P9.1: Area and Side, held against another reading, and Area against Cross2.
func TestAreaMany(t *testing.T) {
	for _, p := range planes(3, 4000) {
		a, b, c := p[0], p[1], p[2]
		want := plainArea(a, b, c)
		if n, e := sign.Area(a, b, c); n != want || e != api.OK {
			t.Errorf("Area(%+v, %+v, %+v): %d, %d, want %d", a, b, c, n, e, want)
		}
		if n, e := sign.Side(a, b, c); n != sideOf(want) || e != api.OK {
			t.Errorf("Side(%+v, %+v, %+v): %d, %d, want the side of %d", a, b, c, n, e, want)
		}
		if n, _ := vec.Cross2(vec.Sub2(b, a), vec.Sub2(c, a)); n != want {
			t.Errorf("Cross2 round %+v, %+v, %+v: %d, want %d", a, b, c, n, want)
		}
	}
}

// P9.1: Area and Side, if one is not small, whichever it is; beside an error all else is zero.
func TestAreaFar(t *testing.T) {
	for _, far := range fars2() {
		for _, x := range [][3]api.V2{
			{far, v2(2, 0), v2(0, 3)}, {v2(0, 0), far, v2(0, 3)}, {v2(0, 0), v2(2, 0), far}, {far, far, v2(0, 3)}, {far, v2(1, 2), far}, {v2(1, 1), far, far}, {far, far, far},
		} {
			if n, e := sign.Area(x[0], x[1], x[2]); n != 0 || e != api.ErrRange {
				t.Errorf("Area of %+v: %d, %d", x, n, e)
			}
			if n, e := sign.Side(x[0], x[1], x[2]); n != 0 || e != api.ErrRange {
				t.Errorf("Side of %+v: %d, %d", x, n, e)
			}
		}
	}
}

// P9.2: Normal and Facing, spelt out, with the document's examples.
func TestNormalTable(t *testing.T) {
	const square = 4 * room * room
	for _, x := range []struct {
		a, b, c, want api.V3
		axis, side    int
	}{
		{v3(0, 0, 0), v3(1, 0, 0), v3(0, 1, 0), v3(0, 0, 1), 2, 1}, {v3(0, 0, 0), v3(0, 1, 0), v3(1, 0, 0), v3(0, 0, -1), 2, -1},
		{v3(0, 0, 0), v3(0, 1, 0), v3(0, 0, 1), v3(1, 0, 0), 0, 1}, {v3(0, 0, 0), v3(0, 0, 1), v3(0, 1, 0), v3(-1, 0, 0), 0, -1},
		{v3(0, 0, 0), v3(0, 0, 1), v3(1, 0, 0), v3(0, 1, 0), 1, 1}, {v3(0, 0, 0), v3(1, 0, 0), v3(0, 0, 1), v3(0, -1, 0), 1, -1},
		{v3(1, 0, 0), v3(0, 1, 0), v3(0, 0, 1), v3(1, 1, 1), 0, 1}, {v3(0, 1, 0), v3(1, 0, 0), v3(0, 0, 1), v3(-1, -1, -1), 0, -1},
		{v3(0, 0, 0), v3(1, 0, 0), v3(0, 1, 1), v3(0, -1, 1), 1, -1}, {v3(0, 0, 0), v3(1, 0, 0), v3(0, 1, -1), v3(0, 1, 1), 1, 1}, {v3(0, 0, 0), v3(0, 1, 0), v3(1, 0, 1), v3(1, 0, -1), 0, 1},
		{v3(0, 0, 0), v3(1, 2, 3), v3(4, 5, 6), v3(-3, 6, -3), 1, 1}, {v3(7, 8, 9), v3(8, 10, 12), v3(11, 13, 15), v3(-3, 6, -3), 1, 1},
		{v3(0, 0, 0), v3(3, 0, 1), v3(0, 2, 1), v3(-2, -3, 6), 2, 1}, {v3(0, 0, 0), v3(0, 2, 1), v3(3, 0, 1), v3(2, 3, -6), 2, -1}, {v3(0, 0, 0), v3(1, 3, 0), v3(0, 1, 2), v3(6, -2, 1), 0, 1},
		{v3(-room, -room, -room), v3(room, -room, -room), v3(-room, room, -room), v3(0, 0, square), 2, 1},
		{v3(-room, -room, -room), v3(room, room, -room), v3(room, -room, room), v3(square, -square, -square), 0, 1},
		{v3(room, room, room), v3(-room, room, -room), v3(-room, -room, room), v3(-square, square, square), 0, -1},
		{v3(-room, -room, 0), v3(room, room, 0), v3(room, room, 1), v3(2*room, -2*room, 0), 0, 1},
	} {
		if n, e := sign.Normal(x.a, x.b, x.c); n != x.want || e != api.OK {
			t.Errorf("Normal(%+v, %+v, %+v): %+v, %d, want %+v", x.a, x.b, x.c, n, e, x.want)
		}
		if axis, side, e := sign.Facing(x.a, x.b, x.c); axis != x.axis || side != x.side || e != api.OK {
			t.Errorf("Facing(%+v, %+v, %+v): %d, %d, %d, want %d, %d", x.a, x.b, x.c, axis, side, e, x.axis, x.side)
		}
	}
}

// P9.2: Facing of a triangle that is flat as a line, or a point; beside an error all else is zero.
func TestFacingFlat(t *testing.T) {
	for _, x := range [][3]api.V3{
		{v3(0, 0, 0), v3(1, 2, 3), v3(2, 4, 6)}, {v3(0, 0, 0), v3(1, 2, 3), v3(-3, -6, -9)}, {v3(4, 5, 6), v3(4, 5, 6), v3(1, 2, 3)}, {v3(1, 2, 3), v3(4, 5, 6), v3(1, 2, 3)},
		{v3(1, 2, 3), v3(4, 5, 6), v3(4, 5, 6)}, {v3(7, 7, 7), v3(7, 7, 7), v3(7, 7, 7)}, {v3(-room, -room, -room), v3(0, 0, 0), v3(room, room, room)}, {},
	} {
		if n, e := sign.Normal(x[0], x[1], x[2]); n != (api.V3{}) || e != api.OK {
			t.Errorf("Normal of %+v: %+v, %d", x, n, e)
		}
		if axis, side, e := sign.Facing(x[0], x[1], x[2]); axis != 0 || side != 0 || e != api.ErrZero {
			t.Errorf("Facing of %+v: %d, %d, %d", x, axis, side, e)
		}
	}
}

// plainFacing is Facing of a normal, by the parts' sizes one by one.
func plainFacing(n api.V3) (int, int, api.Errno) {
	x, y, z := max(n.X, -n.X), max(n.Y, -n.Y), max(n.Z, -n.Z)
	switch {
	case x+y+z == 0:
		return 0, 0, api.ErrZero
	case x >= y && x >= z:
		return 0, sideOf(n.X), api.OK
	case y >= z:
		return 1, sideOf(n.Y), api.OK
	}
	return 2, sideOf(n.Z), api.OK
}

// P9.2: Normal and Facing, held against another reading, and Normal against Cross3.
func TestNormalMany(t *testing.T) {
	for _, p := range spaces(3, 6000) {
		a, b, c := p[0], p[1], p[2]
		want := plainNormal(a, b, c)
		if n, e := sign.Normal(a, b, c); n != want || e != api.OK {
			t.Errorf("Normal(%+v, %+v, %+v): %+v, %d, want %+v", a, b, c, n, e, want)
		}
		if n, _ := vec.Cross3(vec.Sub3(b, a), vec.Sub3(c, a)); n != want {
			t.Errorf("Cross3 round %+v, %+v, %+v: %+v, want %+v", a, b, c, n, want)
		}
		axis, side, f := plainFacing(want)
		if x, s, e := sign.Facing(a, b, c); x != axis || s != side || e != f {
			t.Errorf("Facing(%+v, %+v, %+v): %d, %d, %d, want %d, %d, %d", a, b, c, x, s, e, axis, side, f)
		}
	}
}

// P9.2: Normal and Facing, if one is not small, whichever it is: that is told ahead of a normal that is zero.
func TestNormalFar(t *testing.T) {
	for _, far := range fars3() {
		for _, x := range [][3]api.V3{
			{far, v3(1, 0, 0), v3(0, 1, 0)}, {v3(0, 0, 0), far, v3(0, 1, 0)}, {v3(0, 0, 0), v3(1, 0, 0), far}, {far, far, v3(0, 1, 0)}, {far, v3(1, 0, 0), far}, {v3(1, 1, 1), far, far}, {far, far, far}, {v3(1, 1, 1), v3(1, 1, 1), far},
		} {
			if n, e := sign.Normal(x[0], x[1], x[2]); n != (api.V3{}) || e != api.ErrRange {
				t.Errorf("Normal of %+v: %+v, %d", x, n, e)
			}
			if axis, side, e := sign.Facing(x[0], x[1], x[2]); axis != 0 || side != 0 || e != api.ErrRange {
				t.Errorf("Facing of %+v: %d, %d, %d", x, axis, side, e)
			}
		}
	}
}

// P9.2: Volume, spelt out, with the document's example and the greatest ones: of every other corner of the whole cube.
func TestVolumeTable(t *testing.T) {
	const m, cube = room, 8 * room * room * room
	for _, x := range []struct {
		a, b, c, d api.V3
		want       int
	}{
		{v3(0, 0, 0), v3(1, 0, 0), v3(0, 1, 0), v3(5, 5, -7), -7}, {v3(0, 0, 0), v3(1, 0, 0), v3(0, 1, 0), v3(-5, 9, 7), 7}, {v3(0, 0, 0), v3(1, 0, 0), v3(0, 1, 0), v3(8, 9, 0), 0},
		{v3(0, 0, 3), v3(1, 0, 3), v3(0, 1, 3), v3(8, 9, 3), 0}, {v3(0, 0, 3), v3(1, 0, 3), v3(0, 1, 3), v3(8, 9, 0), -3}, {v3(1, 2, 3), v3(4, 5, 6), v3(7, 8, 9), v3(-1, 5, 2), 0},
		{v3(1, 0, 0), v3(0, 1, 0), v3(0, 0, 1), v3(0, 0, 0), -1}, {v3(1, 0, 0), v3(0, 1, 0), v3(0, 0, 1), v3(1, 1, 1), 2}, {v3(0, 0, 0), v3(1, 2, 3), v3(4, 5, 6), v3(7, 8, 10), -3},
		{v3(0, 0, 0), v3(1, 2, 3), v3(4, 5, 6), v3(1, 0, 0), -3}, {v3(0, 0, 0), v3(1, 2, 3), v3(4, 5, 6), v3(0, 1, 0), 6}, {v3(0, 0, 0), v3(1, 2, 3), v3(4, 5, 6), v3(0, 0, 1), -3},
		{v3(-m, -m, -m), v3(m, -m, -m), v3(-m, m, -m), v3(-m, -m, m), cube}, {v3(-m, -m, -m), v3(m, m, -m), v3(m, -m, m), v3(-m, m, m), -2 * cube}, {v3(m, m, m), v3(-m, -m, m), v3(-m, m, -m), v3(m, -m, -m), 2 * cube},
		{v3(-m, -m, -m), v3(m, -m, m), v3(m, m, -m), v3(-m, m, m), 2 * cube}, {v3(0, 0, 0), v3(m, m, m), v3(-m, -m, -m), v3(1, 2, 3), 0},
	} {
		if n, e := sign.Volume(x.a, x.b, x.c, x.d); n != x.want || e != api.OK {
			t.Errorf("Volume(%+v, %+v, %+v, %+v): %d, %d, want %d", x.a, x.b, x.c, x.d, n, e, x.want)
		}
	}
}

// P9.2: Volume, held against another reading, and against Normal part by part.
func TestVolumeMany(t *testing.T) {
	for _, p := range spaces(4, 6000) {
		a, b, c, d := p[0], p[1], p[2], p[3]
		want := plainVolume(a, b, c, d)
		if n, e := sign.Volume(a, b, c, d); n != want || e != api.OK {
			t.Errorf("Volume(%+v, %+v, %+v, %+v): %d, %d, want %d", a, b, c, d, n, e, want)
		}
		n, _ := sign.Normal(a, b, c)
		if sum := n.X*(d.X-a.X) + n.Y*(d.Y-a.Y) + n.Z*(d.Z-a.Z); sum != want {
			t.Errorf("Normal of %+v, times the way to %+v: %d, want %d", p[:3], d, sum, want)
		}
	}
}

// P9.2: Volume, if one is not small, whichever it is; beside an error all else is zero.
func TestVolumeFar(t *testing.T) {
	for _, far := range fars3() {
		for mask := 1; mask < 16; mask++ {
			p := [4]api.V3{v3(0, 0, 0), v3(1, 0, 0), v3(0, 1, 0), v3(5, 5, -7)}
			for i := range p {
				if mask>>i&1 == 1 {
					p[i] = far
				}
			}
			if n, e := sign.Volume(p[0], p[1], p[2], p[3]); n != 0 || e != api.ErrRange {
				t.Errorf("Volume of %+v: %d, %d", p, n, e)
			}
		}
	}
}

// P9.3: turned round by one place a triangle in a plane has the same area; with two places changed the other side.
func TestTurnedInPlane(t *testing.T) {
	for _, p := range planes(3, 2000) {
		a, b, c := p[0], p[1], p[2]
		n, _ := sign.Area(a, b, c)
		s, _ := sign.Side(a, b, c)
		for _, x := range [][3]api.V2{{b, c, a}, {c, a, b}} {
			if m, e := sign.Area(x[0], x[1], x[2]); m != n || e != api.OK {
				t.Errorf("Area of %+v: %d, turned as %+v: %d, %d", p, n, x, m, e)
			}
		}
		for _, x := range [][3]api.V2{{b, a, c}, {c, b, a}, {a, c, b}} {
			m, e := sign.Area(x[0], x[1], x[2])
			r, f := sign.Side(x[0], x[1], x[2])
			if m != -n || r != -s || e != api.OK || f != api.OK {
				t.Errorf("Area and Side of %+v: %d, %d, with two changed %+v: %d, %d", p, n, s, x, m, r)
			}
		}
	}
}

// P9.3: turned round by one place a triangle in space has the same normal; with two places changed the other side.
func TestTurnedInSpace(t *testing.T) {
	for _, p := range spaces(3, 2000) {
		a, b, c := p[0], p[1], p[2]
		n, _ := sign.Normal(a, b, c)
		axis, side, f := sign.Facing(a, b, c)
		for _, x := range [][3]api.V3{{b, c, a}, {c, a, b}} {
			if m, e := sign.Normal(x[0], x[1], x[2]); m != n || e != api.OK {
				t.Errorf("Normal of %+v: %+v, turned as %+v: %+v, %d", p, n, x, m, e)
			}
		}
		for _, x := range [][3]api.V3{{b, a, c}, {c, b, a}, {a, c, b}} {
			if m, e := sign.Normal(x[0], x[1], x[2]); m != v3(-n.X, -n.Y, -n.Z) || e != api.OK {
				t.Errorf("Normal of %+v: %+v, with two changed %+v: %+v, %d", p, n, x, m, e)
			}
			if k, s, e := sign.Facing(x[0], x[1], x[2]); k != axis || s != -side || e != f {
				t.Errorf("Facing of %+v: %d, %d, with two changed %+v: %d, %d, %d", p, axis, side, x, k, s, e)
			}
		}
	}
}

// P9.3: a volume has the other side when any two of its points change places.
func TestTurnedVolume(t *testing.T) {
	for _, p := range spaces(4, 1000) {
		n, _ := sign.Volume(p[0], p[1], p[2], p[3])
		for i := range p {
			for k := range i {
				q := slices.Clone(p)
				q[i], q[k] = q[k], q[i]
				if m, e := sign.Volume(q[0], q[1], q[2], q[3]); m != -n || e != api.OK {
					t.Errorf("Volume of %+v: %d, with %d and %d changed: %d, %d", p, n, k, i, m, e)
				}
			}
		}
	}
}

// P9.3: moved, a triangle has the same area and side, as long as it stays small.
func TestMovedInPlane(t *testing.T) {
	moved, ways := 0, planes(1, 2000)
	for i, p := range planes(3, 2000) {
		by := ways[i][0]
		q := make([]api.V2, len(p))
		for k, a := range p {
			q[k] = v2(a.X+by.X, a.Y+by.Y)
		}
		n, _ := sign.Area(p[0], p[1], p[2])
		m, e := sign.Area(q[0], q[1], q[2])
		s, f := sign.Side(q[0], q[1], q[2])
		if !sign.Small2(q...) {
			if e != api.ErrRange || f != api.ErrRange {
				t.Errorf("%+v is not small: %d, %d", q, e, f)
			}
			continue
		}
		moved++
		if m != n || s != sideOf(n) || e != api.OK || f != api.OK {
			t.Errorf("Area of %+v: %d, moved by %+v: %d, side %d", p, n, by, m, s)
		}
	}
	if moved < 1000 {
		t.Errorf("only %d stayed small", moved)
	}
}

// P9.3: moved, a triangle in space has the same normal, and with a point the same volume.
func TestMovedInSpace(t *testing.T) {
	moved, ways := 0, spaces(1, 2000)
	for i, p := range spaces(4, 2000) {
		by := ways[i][0]
		q := make([]api.V3, len(p))
		for k, a := range p {
			q[k] = v3(a.X+by.X, a.Y+by.Y, a.Z+by.Z)
		}
		if !sign.Small3(q...) {
			continue
		}
		moved++
		n, _ := sign.Normal(p[0], p[1], p[2])
		v, _ := sign.Volume(p[0], p[1], p[2], p[3])
		m, e := sign.Normal(q[0], q[1], q[2])
		w, f := sign.Volume(q[0], q[1], q[2], q[3])
		if m != n || w != v || e != api.OK || f != api.OK {
			t.Errorf("%+v: %+v, %d, moved by %+v: %+v, %d", p, n, v, by, m, w)
		}
	}
	if moved < 1000 {
		t.Errorf("only %d stayed small", moved)
	}
}

// P9.3: three areas over one point, inside or not, make the whole one.
func TestAreasOverAPoint(t *testing.T) {
	for _, p := range planes(4, 3000) {
		a, b, c, o := p[0], p[1], p[2], p[3]
		whole, _ := sign.Area(a, b, c)
		x, _ := sign.Area(o, a, b)
		y, _ := sign.Area(o, b, c)
		z, _ := sign.Area(o, c, a)
		if x+y+z != whole {
			t.Errorf("%+v over %+v: %d, %d and %d, whole %d", p[:3], o, x, y, z, whole)
		}
	}
}

// P9.3: a volume is 0 if two points are the same.
func TestVolumeOfTheSame(t *testing.T) {
	for _, p := range spaces(4, 1000) {
		for i := range p {
			for k := range i {
				q := slices.Clone(p)
				q[i] = q[k]
				if n, e := sign.Volume(q[0], q[1], q[2], q[3]); n != 0 || e != api.OK {
					t.Errorf("Volume of %+v: %d, %d", q, n, e)
				}
			}
		}
	}
}
