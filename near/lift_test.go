package near_test

import (
	"math"
	"math/big"
	"testing"

	"limewash/api"
	"limewash/near"
)

const room = api.MaxSmall

type solid = [3]api.V3

func v3(x, y, z int) api.V3 {
	return api.V3{X: x, Y: y, Z: z}
}

// solids gives n rows of three small points in space, rolled.
func solids(seed uint64, n int) []solid {
	roll := rolls(seed)
	var l []solid
	for i := range n {
		reach := []int{1, 9, 200, room}[i%4]
		var s solid
		for k := range s {
			s[k] = v3(roll(2*reach+1)-reach, roll(2*reach+1)-reach, roll(2*reach+1)-reach)
		}
		l = append(l, s)
	}
	return l
}

// farSolids gives rows with a point that is not small, wherever it stands.
func farSolids() []solid {
	var l []solid
	for _, n := range []int{-room - 1, room + 1, -2 * room, 1 << 20, 1 << 32, 1<<32 + 1, -1 << 32, math.MinInt, math.MinInt + 1, math.MaxInt} {
		for _, far := range []api.V3{v3(n, 0, 0), v3(0, n, 0), v3(0, 0, n), v3(n, n, 1), v3(room, -room, n), v3(n, n, n)} {
			l = append(l, solid{far, {}, {}}, solid{{}, far, {}}, solid{v3(1, 2, 3), v3(room, 5, 6), far}, solid{far, far, {}}, solid{far, far, far})
		}
	}
	return l
}

// P11.3: Weights, spelt out, with the document's example: turned to either side, outside, and the greatest ones.
func TestWeightsTable(t *testing.T) {
	great := tri(-most, -most, most, -most, -most, most)
	for _, x := range []struct {
		t    triangle
		p    api.V2
		want [3]int
		all  int
	}{
		{first(), v2(1, 1), [3]int{8, 4, 4}, 16}, {first(), v2(0, 0), [3]int{16, 0, 0}, 16}, {first(), v2(4, 0), [3]int{0, 16, 0}, 16}, {first(), v2(0, 4), [3]int{0, 0, 16}, 16}, {first(), v2(2, 2), [3]int{0, 8, 8}, 16}, {first(), v2(2, 1), [3]int{4, 8, 4}, 16}, {first(), v2(1, 2), [3]int{4, 4, 8}, 16},
		{first(), v2(3, 3), [3]int{-8, 12, 12}, 16}, {first(), v2(-1, 1), [3]int{16, -4, 4}, 16}, {first(), v2(1, -1), [3]int{16, 4, -4}, 16}, {first(), v2(-1, -1), [3]int{24, -4, -4}, 16},
		{tri(0, 0, 0, 4, 4, 0), v2(2, 1), [3]int{4, 4, 8}, 16}, {tri(4, 0, 0, 0, 0, 4), v2(3, 0), [3]int{12, 4, 0}, 16}, {tri(1, 2, 3, 5, -4, 7), v2(1, 2), [3]int{25, 0, 0}, 25}, {tri(1, 2, -4, 7, 3, 5), v2(-4, 7), [3]int{0, 25, 0}, 25},
		{great, v2(most, most), [3]int{-1 << 26, 1 << 26, 1 << 26}, 1 << 26}, {great, v2(0, -1), [3]int{most * 2, 1 << 25, (most - 1) * most * 2}, 1 << 26}, {tri(0, 0, most, most-1, most-1, most-2), v2(-most, most), [3]int{2*most + 1, (2*most - 3) * most, -(2*most - 1) * most}, 1},
	} {
		if w, all, e := near.Weights(x.p, x.t); w != x.want || all != x.all || e != api.OK {
			t.Errorf("Weights(%+v, %+v): %v, %d, %d, want %v, %d", x.p, x.t, w, all, e, x.want, x.all)
		}
	}
}

// P11.3, P11.4: Weights of rolled ones: they make the whole area, they pull the corners to the point, and all are 0 or more just if it is inside; with the corners they change places.
func TestWeightsMany(t *testing.T) {
	l := points(4, 4*5000)
	found := map[bool]int{}
	for i := 0; i < len(l); i += 4 {
		x := triangle(l[i : i+3])
		area := plainArea(x[0], x[1], x[2])
		if area == 0 {
			continue
		}
		for _, p := range []api.V2{l[i+3], x[0], v2((x[1].X+x[2].X)/2, (x[1].Y+x[2].Y)/2), v2((x[0].X+x[1].X+x[2].X)/3, (x[0].Y+x[1].Y+x[2].Y)/3)} {
			w, all, e := near.Weights(p, x)
			if e != api.OK || all != max(area, -area) || w[0]+w[1]+w[2] != all {
				t.Fatalf("Weights(%+v, %+v): %v, %d, %d", p, x, w, all, e)
			}
			// Only one row of weights that make the area pulls the corners to p.
			if w[0]*x[0].X+w[1]*x[1].X+w[2]*x[2].X != all*p.X || w[0]*x[0].Y+w[1]*x[1].Y+w[2]*x[2].Y != all*p.Y {
				t.Errorf("Weights(%+v, %+v): %v, %d: elsewhere", p, x, w, all)
			}
			in := min(w[0], w[1], w[2]) >= 0
			found[in]++
			if in != plainIn(p, x) {
				t.Errorf("Weights(%+v, %+v): %v, %d: in: %t", p, x, w, all, plainIn(p, x))
			}
			if v, n, _ := near.Weights(p, triangle{x[1], x[0], x[2]}); v != [3]int{w[1], w[0], w[2]} || n != all {
				t.Errorf("Weights(%+v, %+v): %v, %d, and with two changed %v, %d", p, x, w, all, v, n)
			}
		}
	}
	if min(found[true], found[false]) < 2000 {
		t.Errorf("too few of one kind: %v", found)
	}
}

// P11.3: Weights of a point that is not small, told ahead of a triangle that is not right; beside an error all else is zero.
func TestWeightsWrong(t *testing.T) {
	check := func(p api.V2, x triangle, want api.Errno) {
		t.Helper()
		if w, all, e := near.Weights(p, x); w != [3]int{} || all != 0 || e != want {
			t.Errorf("Weights(%+v, %+v): %v, %d, %d, want %d", p, x, w, all, e, want)
		}
	}
	for _, far := range fars() {
		for _, x := range append(wrongs(), first()) {
			check(far, x, api.ErrRange)
		}
	}
	for _, x := range wrongs() {
		for _, p := range []api.V2{{}, v2(1, 1), v2(most, -most)} {
			check(p, x, api.ErrArg)
		}
	}
}

// P11.3: Lift, spelt out: corners, inside, outside, rounded down on both sides of 0, and the greatest ones.
func TestLiftTable(t *testing.T) {
	s := solid{v3(10, 0, -3), v3(14, 1, 0), v3(10, 7, 5)}
	great := solid{v3(room, -room, 0), v3(room, room, -room), v3(-room, room, room)}
	for _, x := range []struct {
		t    triangle
		p    api.V2
		s    solid
		want api.V3
	}{
		{first(), v2(0, 0), s, s[0]}, {first(), v2(4, 0), s, s[1]}, {first(), v2(0, 4), s, s[2]}, {first(), v2(1, 1), s, v3(11, 2, -1)}, {first(), v2(3, 3), s, v3(13, 6, 5)}, {first(), v2(2, 2), s, v3(12, 4, 2)}, {first(), v2(-1, -1), s, v3(9, -2, -6)},
		{first(), v2(1, 0), solid{{}, v3(-1, 1, 3), {}}, v3(-1, 0, 0)}, {first(), v2(0, 1), solid{{}, {}, v3(-3, 7, -5)}, v3(-1, 1, -2)}, {first(), v2(2, 1), solid{v3(-1, 1, 0), v3(-1, 1, 0), v3(-1, 1, 0)}, v3(-1, 1, 0)}, {first(), v2(1, 2), solid{}, v3(0, 0, 0)},
		{tri(-most, -most, most, -most, -most, most), v2(most, most), great, v3(-room, 3*room, 0)}, {tri(0, 0, 1, 0, 0, 1), v2(most, -most), great, v3(room+2*room*most, -room, -2*room*most)},
	} {
		for i, y := range turned(x.t) {
			u := [][3]api.V3{x.s, {x.s[1], x.s[2], x.s[0]}, {x.s[2], x.s[0], x.s[1]}, {x.s[1], x.s[0], x.s[2]}, {x.s[0], x.s[2], x.s[1]}, {x.s[2], x.s[1], x.s[0]}}[i]
			if at, e := near.Lift(x.p, y, u); at != x.want || e != api.OK {
				t.Errorf("Lift(%+v, %+v, %+v): %+v, %d, want %+v", x.p, y, u, at, e, x.want)
			}
		}
	}
}

// plainLift is Lift, part by part, by how far p is along the two edges from the first corner: what the ways to the others are worth.
func plainLift(p api.V2, t triangle, s solid) api.V3 {
	area := plainArea(t[0], t[1], t[2])
	u, v := rat(plainArea(t[0], p, t[2]), area), rat(plainArea(t[0], t[1], p), area)
	part := func(a, b, c int) int {
		x, y := new(big.Rat).Mul(u, rat(b-a, 1)), new(big.Rat).Mul(v, rat(c-a, 1))
		return floor(x.Add(x.Add(x, y), rat(a, 1)))
	}
	return v3(part(s[0].X, s[1].X, s[2].X), part(s[0].Y, s[1].Y, s[2].Y), part(s[0].Z, s[1].Z, s[2].Z))
}

// P11.3, P11.4: Lift of rolled ones, held against another reading; a corner is lifted to its point.
func TestLiftMany(t *testing.T) {
	l, rows := points(5, 4*5000), solids(6, 5000)
	for i, s := range rows {
		x := triangle(l[4*i : 4*i+3])
		if plainArea(x[0], x[1], x[2]) == 0 {
			continue
		}
		for _, p := range []api.V2{l[4*i+3], v2((x[0].X+x[1].X+x[2].X)/3, (x[0].Y+x[1].Y+x[2].Y)/3)} {
			if at, e := near.Lift(p, x, s); at != plainLift(p, x, s) || e != api.OK {
				t.Errorf("Lift(%+v, %+v, %+v): %+v, %d, want %+v", p, x, s, at, e, plainLift(p, x, s))
			}
		}
		for k, corner := range x {
			if at, e := near.Lift(corner, x, s); at != s[k] || e != api.OK {
				t.Errorf("Lift(%+v, %+v, %+v): %+v, %d, want %+v", corner, x, s, at, e, s[k])
			}
		}
	}
}

// P11.3: Lift, if the point, or one of s, is not small, told ahead of a triangle that is not right; beside an error all else is zero.
func TestLiftWrong(t *testing.T) {
	check := func(p api.V2, x triangle, s solid, want api.Errno) {
		t.Helper()
		if at, e := near.Lift(p, x, s); at != (api.V3{}) || e != want {
			t.Errorf("Lift(%+v, %+v, %+v): %+v, %d, want %d", p, x, s, at, e, want)
		}
	}
	s := solid{v3(1, 2, 3), v3(-4, room, 6), v3(7, 8, -room)}
	for _, far := range fars() {
		for _, x := range append(wrongs(), first()) {
			check(far, x, s, api.ErrRange)
		}
		check(far, first(), farSolids()[0], api.ErrRange)
	}
	for _, u := range farSolids() {
		for _, x := range append(wrongs()[:20], first()) {
			check(v2(1, 1), x, u, api.ErrRange)
		}
	}
	for _, x := range wrongs() {
		for _, p := range []api.V2{{}, v2(1, 1), v2(most, -most)} {
			check(p, x, s, api.ErrArg)
		}
	}
}
