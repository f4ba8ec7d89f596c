package meet_test

import (
	"math"
	"testing"

	"limewash/api"
	"limewash/meet"
)

const most = api.MaxUV

type triangle = [3]api.V2

func v2(x, y int) api.V2 {
	return api.V2{X: x, Y: y}
}

func tri(a, b, c, d, e, f int) triangle {
	return triangle{v2(a, b), v2(c, d), v2(e, f)}
}

// first is the document's first triangle.
func first() triangle {
	return tri(0, 0, 4, 0, 0, 4)
}

// rolls gives numbers that look like chance, the same at each run.
func rolls(seed uint64) func(n int) int {
	return func(n int) int {
		seed = seed*6364136223846793005 + 1442695040888963407
		return int((seed >> 33) % uint64(n))
	}
}

// points gives n small points, rolled; close ones make many that are level or the same.
func points(seed uint64, n int) []api.V2 {
	roll := rolls(seed)
	var l []api.V2
	for i := range n {
		reach := []int{2, 4, 20, most}[i/3%4]
		l = append(l, v2(roll(2*reach+1)-reach, roll(2*reach+1)-reach))
	}
	return l
}

// triangles gives right ones, rolled, of all sizes.
func triangles(seed uint64, n int) []triangle {
	var l []triangle
	p := points(seed, 3*n)
	for i := 0; i < len(p); i += 3 {
		if t := triangle(p[i : i+3]); plainArea(t[0], t[1], t[2]) != 0 {
			l = append(l, t)
		}
	}
	return l
}

// turned gives t in all orders of its points.
func turned(t triangle) []triangle {
	return []triangle{t, {t[1], t[2], t[0]}, {t[2], t[0], t[1]}, {t[1], t[0], t[2]}, {t[0], t[2], t[1]}, {t[2], t[1], t[0]}}
}

// fars gives points that are not small: by one part, or by both.
func fars() []api.V2 {
	var l []api.V2
	for _, n := range []int{-most - 1, most + 1, -2 * most, 2 * most, 1 << 20, 1 << 32, 1<<32 + 1, -1 << 32, math.MinInt, math.MinInt + 1, math.MaxInt} {
		l = append(l, v2(n, 0), v2(0, n), v2(n, most), v2(-most, n), v2(n, n))
	}
	return l
}

// wrongs gives triangles that are not right: lines, points, and those with a point too far out, wherever it stands.
func wrongs() []triangle {
	l := []triangle{
		{}, tri(0, 0, 1, 1, 2, 2), tri(0, 0, 2, 4, 1, 2), tri(3, 4, 3, 4, 3, 4), tri(3, 4, 3, 4, 9, 1), tri(3, 4, 9, 1, 3, 4), tri(9, 1, 3, 4, 3, 4), tri(-5, 2, 0, 2, 9, 2), tri(1, -5, 1, 0, 1, 7),
		tri(-most, -most, 0, 0, most, most), tri(-most, most, most, -most, 0, 0),
	}
	for _, far := range fars() {
		l = append(l, triangle{far, v2(0, 1), v2(2, 0)}, triangle{v2(0, 1), far, v2(2, 0)}, triangle{v2(0, 1), v2(2, 0), far}, triangle{far, far, v2(1, 1)}, triangle{far, far, far})
	}
	return l
}

// plainArea is twice the area, by its three corners one after another: round a triangle, what each side cuts off from 0.
func plainArea(a, b, c api.V2) int {
	return a.X*b.Y - b.X*a.Y + b.X*c.Y - c.X*b.Y + c.X*a.Y - a.X*c.Y
}

// size gives n without its side.
func size(n int) int {
	return max(n, -n)
}

// plainIn is In of a right triangle, by areas: those of p and each edge make the whole one, if p is not outside; one of them is 0 on the rim.
func plainIn(p api.V2, t triangle) int {
	a, b, c := size(plainArea(p, t[0], t[1])), size(plainArea(p, t[1], t[2])), size(plainArea(p, t[2], t[0]))
	switch {
	case a+b+c != size(plainArea(t[0], t[1], t[2])):
		return 0
	case min(a, b, c) == 0:
		return 1
	}
	return 2
}

// P10.1: Right, spelt out: turned either way, the greatest ones, and the thinnest ones.
func TestRightTable(t *testing.T) {
	for _, x := range []triangle{
		first(), tri(0, 0, 0, 4, 4, 0), tri(0, 0, 1, 0, 0, 1), tri(-3, -3, -1, -3, -2, -2), tri(-most, -most, most, -most, -most, most), tri(most, most, -most, most, most, -most),
		tri(-most, -most, most, most, most, most-1), tri(-most, -most, most, most-1, most-1, most-2), tri(most, 0, 0, most, -most, 0),
	} {
		for _, y := range turned(x) {
			if !meet.Right(y) {
				t.Errorf("Right(%+v): false", y)
			}
		}
	}
	for _, x := range wrongs() {
		if meet.Right(x) {
			t.Errorf("Right(%+v): true", x)
		}
	}
}

// P10.1: Right, held against another reading.
func TestRightMany(t *testing.T) {
	p := points(1, 9000)
	for i := 0; i < len(p); i += 3 {
		x := triangle(p[i : i+3])
		if ok := meet.Right(x); ok != (plainArea(x[0], x[1], x[2]) != 0) {
			t.Errorf("Right(%+v): %t", x, ok)
		}
	}
}

// P10.1: In, spelt out, with the document's examples; on an edge's line, but past its ends, is outside.
func TestInTable(t *testing.T) {
	great := tri(-most, -most, most, -most, -most, most)
	for _, x := range []struct {
		t    triangle
		p    api.V2
		want int
	}{
		{first(), v2(1, 1), 2}, {first(), v2(2, 2), 1}, {first(), v2(3, 3), 0}, {first(), v2(2, 1), 2}, {first(), v2(0, 0), 1}, {first(), v2(4, 0), 1}, {first(), v2(0, 4), 1},
		{first(), v2(3, 0), 1}, {first(), v2(0, 2), 1}, {first(), v2(1, 3), 1}, {first(), v2(5, 0), 0}, {first(), v2(-1, 0), 0}, {first(), v2(0, 5), 0}, {first(), v2(0, -1), 0}, {first(), v2(5, -1), 0}, {first(), v2(-1, 5), 0},
		{first(), v2(1, -1), 0}, {first(), v2(-1, 1), 0}, {first(), v2(-1, -1), 0}, {first(), v2(most, most), 0}, {first(), v2(-most, -most), 0},
		{great, v2(0, 0), 1}, {great, v2(-1, 0), 2}, {great, v2(1, 0), 0}, {great, v2(-most, 0), 1}, {great, v2(most, -most), 1}, {great, v2(1-most, 1-most), 2}, {great, v2(most, most), 0}, {great, v2(most, 1-most), 0}, {great, v2(most-1, 1-most), 1},
		{tri(0, 0, most, most-1, most-1, most-2), v2(1, 1), 0}, {tri(0, 0, most, most-1, most-1, most-2), v2(most, most-1), 1},
	} {
		for _, y := range turned(x.t) {
			if n, e := meet.In(x.p, y); n != x.want || e != api.OK {
				t.Errorf("In(%+v, %+v): %d, %d, want %d", x.p, y, n, e, x.want)
			}
		}
	}
}

// P10.1: In, held against another reading.
func TestInMany(t *testing.T) {
	p := points(2, 3000)
	found := map[int]int{}
	for i, x := range triangles(3, 3000) {
		for _, q := range []api.V2{p[i], x[i%3], v2((x[0].X+x[1].X+x[2].X)/3, (x[0].Y+x[1].Y+x[2].Y)/3), v2((x[0].X+x[1].X)/2, (x[0].Y+x[1].Y)/2)} {
			want := plainIn(q, x)
			found[want]++
			if n, e := meet.In(q, x); n != want || e != api.OK {
				t.Errorf("In(%+v, %+v): %d, %d, want %d", q, x, n, e, want)
			}
		}
	}
	if found[0] < 500 || found[1] < 500 || found[2] < 500 {
		t.Errorf("too few of one kind: %v", found)
	}
}

// P10.1: In of a point that is not small, told ahead of a triangle that is not right; beside an error all else is zero.
func TestInWrong(t *testing.T) {
	for _, far := range fars() {
		for _, x := range append(wrongs(), first()) {
			if n, e := meet.In(far, x); n != 0 || e != api.ErrRange {
				t.Errorf("In(%+v, %+v): %d, %d", far, x, n, e)
			}
		}
	}
	for _, x := range wrongs() {
		for _, p := range []api.V2{{}, v2(1, 1), v2(most, -most)} {
			if n, e := meet.In(p, x); n != 0 || e != api.ErrArg {
				t.Errorf("In(%+v, %+v): %d, %d", p, x, n, e)
			}
		}
	}
}
