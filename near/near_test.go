package near_test

import (
	"math"
	"math/big"
	"testing"

	"limewash/api"
	"limewash/near"
)

const most = api.MaxUV

type triangle = [3]api.V2

func v2(x, y int) api.V2 {
	return api.V2{X: x, Y: y}
}

func f(n, d int) api.Frac {
	return api.Frac{N: n, D: d}
}

func tri(a, b, c, d, e, f int) triangle {
	return triangle{v2(a, b), v2(c, d), v2(e, f)}
}

// first is the document's triangle.
func first() triangle {
	return tri(0, 0, 4, 0, 0, 4)
}

// rolls gives numbers that look like chance, the same at each run.
func rolls(seed uint64) func(n int) int {
	return func(n int) int {
		seed = seed*6364136223846793005 + 1442695040888963407
		return int((seed >> 33) % uint64(n))
	}
}

// points gives n small points, rolled; close ones make many that are level or the same.
func points(seed uint64, n int) []api.V2 {
	roll := rolls(seed)
	var l []api.V2
	for i := range n {
		reach := []int{2, 4, 20, most}[i/4%4]
		l = append(l, v2(roll(2*reach+1)-reach, roll(2*reach+1)-reach))
	}
	return l
}

// turned gives t in all orders of its points: first those that turn as t does.
func turned(t triangle) []triangle {
	return []triangle{t, {t[1], t[2], t[0]}, {t[2], t[0], t[1]}, {t[1], t[0], t[2]}, {t[0], t[2], t[1]}, {t[2], t[1], t[0]}}
}

// fars gives points that are not small: by one part, or by both.
func fars() []api.V2 {
	var l []api.V2
	for _, n := range []int{-most - 1, most + 1, -2 * most, 2 * most, api.MaxPart, 1 << 32, 1<<32 + 1, -1 << 32, math.MinInt, math.MinInt + 1, math.MaxInt} {
		l = append(l, v2(n, 0), v2(0, n), v2(n, most), v2(-most, n), v2(n, n))
	}
	return l
}

// wrongs gives triangles that are not right: lines, points, and those with a point too far out, wherever it stands.
func wrongs() []triangle {
	l := []triangle{
		{}, tri(0, 0, 1, 1, 2, 2), tri(0, 0, 2, 4, 1, 2), tri(3, 4, 3, 4, 3, 4), tri(3, 4, 3, 4, 9, 1), tri(3, 4, 9, 1, 3, 4), tri(9, 1, 3, 4, 3, 4), tri(-5, 2, 0, 2, 9, 2), tri(1, -5, 1, 0, 1, 7),
		tri(-most, -most, 0, 0, most, most), tri(-most, most, most, -most, 0, 0),
	}
	for _, far := range fars() {
		l = append(l, triangle{far, v2(0, 1), v2(2, 0)}, triangle{v2(0, 1), far, v2(2, 0)}, triangle{v2(0, 1), v2(2, 0), far}, triangle{far, far, v2(1, 1)}, triangle{far, far, far})
	}
	return l
}

// plainArea is twice the area, by its three corners one after another: round a triangle, what each side cuts off from 0.
func plainArea(a, b, c api.V2) int {
	return a.X*b.Y - b.X*a.Y + b.X*c.Y - c.X*b.Y + c.X*a.Y - a.X*c.Y
}

// plainIn tells whether p is in t, or on its rim: whether the areas of p and each edge make no more than the whole one.
func plainIn(p api.V2, t triangle) bool {
	size := func(a, b, c api.V2) int { return max(plainArea(a, b, c), -plainArea(a, b, c)) }
	return size(p, t[0], t[1])+size(p, t[1], t[2])+size(p, t[2], t[0]) == size(t[0], t[1], t[2])
}

// rat gives n divided by d.
func rat(n, d int) *big.Rat {
	return big.NewRat(int64(n), int64(d))
}

// floor gives the greatest whole number that is at most x.
func floor(x *big.Rat) int {
	return int(new(big.Int).Div(x.Num(), x.Denom()).Int64())
}

// between gives what lies so much of the way from a to b.
func between(a, b int, much *big.Rat) *big.Rat {
	x := new(big.Rat).Mul(rat(b-a, 1), much)
	return x.Add(x, rat(a, 1))
}

// squareTo gives the square of how far p is from x and y.
func squareTo(p api.V2, x, y *big.Rat) *big.Rat {
	dx, dy := new(big.Rat).Sub(x, rat(p.X, 1)), new(big.Rat).Sub(y, rat(p.Y, 1))
	return dx.Add(dx.Mul(dx, dx), dy.Mul(dy, dy))
}

// foot is what another reading of Edge finds: the foot by fractions, and the square by how far p is from it.
type foot struct {
	at     api.V2
	end    int
	square *big.Rat
	over   int
}

// plainFoot finds it from so much of the way, cut off at the edge's ends: by the squares of all three sides of p, a and b.
func plainFoot(p, a, b api.V2) foot {
	square := func(a, b api.V2) int { return (b.X-a.X)*(b.X-a.X) + (b.Y-a.Y)*(b.Y-a.Y) }
	pa, pb, ab := square(p, a), square(p, b), square(a, b)
	switch {
	case pb-pa >= ab:
		return foot{a, 0, rat(pa, 1), 1}
	case pa-pb >= ab:
		return foot{b, 1, rat(pb, 1), 1}
	}
	much := rat(pa-pb+ab, 2*ab)
	x, y := between(a.X, b.X, much), between(a.Y, b.Y, much)
	return foot{v2(floor(x), floor(y)), 2, squareTo(p, x, y), ab}
}

// isSquare tells whether d is as great as is wanted, over just that number.
func isSquare(d api.Frac, square *big.Rat, over int) bool {
	return d.D == over && rat(d.N, d.D).Cmp(square) == 0
}

// P11.1: Edge, spelt out, with the document's examples: both ends, at them and past them, what is rounded, edges without a length, and the greatest ones.
func TestEdgeTable(t *testing.T) {
	for _, x := range []struct {
		p, a, b, at api.V2
		end         int
		square      api.Frac
	}{
		{v2(2, 3), v2(0, 0), v2(4, 0), v2(2, 0), 2, f(144, 16)}, {v2(-1, 1), v2(0, 0), v2(4, 0), v2(0, 0), 0, f(2, 1)}, {v2(7, 4), v2(0, 0), v2(4, 0), v2(4, 0), 1, f(25, 1)},
		{v2(0, 3), v2(0, 0), v2(4, 0), v2(0, 0), 0, f(9, 1)}, {v2(4, -3), v2(0, 0), v2(4, 0), v2(4, 0), 1, f(9, 1)}, {v2(1, -3), v2(0, 0), v2(4, 0), v2(1, 0), 2, f(144, 16)}, {v2(3, 3), v2(0, 0), v2(4, 0), v2(3, 0), 2, f(144, 16)},
		{v2(2, 0), v2(0, 0), v2(4, 0), v2(2, 0), 2, f(0, 16)}, {v2(0, 0), v2(0, 0), v2(4, 0), v2(0, 0), 0, f(0, 1)}, {v2(4, 0), v2(0, 0), v2(4, 0), v2(4, 0), 1, f(0, 1)}, {v2(9, 0), v2(0, 0), v2(4, 0), v2(4, 0), 1, f(25, 1)},
		{v2(2, 3), v2(4, 0), v2(0, 0), v2(2, 0), 2, f(144, 16)}, {v2(-1, 1), v2(4, 0), v2(0, 0), v2(0, 0), 1, f(2, 1)}, {v2(12, -7), v2(10, -10), v2(14, -10), v2(12, -10), 2, f(144, 16)},
		{v2(3, 4), v2(0, 0), v2(0, 0), v2(0, 0), 0, f(25, 1)}, {v2(3, 4), v2(3, 4), v2(3, 4), v2(3, 4), 0, f(0, 1)}, {v2(0, 0), v2(-5, 12), v2(-5, 12), v2(-5, 12), 0, f(169, 1)},
		{v2(0, 1), v2(0, 0), v2(-3, 2), v2(-1, 0), 2, f(9, 13)}, {v2(0, 1), v2(-3, 2), v2(0, 0), v2(-1, 0), 2, f(9, 13)}, {v2(0, -1), v2(0, 0), v2(3, -2), v2(0, -1), 2, f(9, 13)}, {v2(1, 1), v2(0, 0), v2(3, 2), v2(1, 0), 2, f(1, 13)},
		{v2(1, 0), v2(0, 0), v2(4, 1), v2(0, 0), 2, f(1, 17)}, {v2(-1, 0), v2(-4, -1), v2(0, 0), v2(-1, -1), 2, f(1, 17)}, {v2(-1, 0), v2(0, 0), v2(-4, -1), v2(-1, -1), 2, f(1, 17)}, {v2(1, 1), v2(5, -1), v2(0, 0), v2(0, -1), 2, f(36, 26)}, {v2(1, 3), v2(1, 4), v2(-1, 1), v2(0, 3), 2, f(4, 13)},
		{v2(most, most), v2(-most, -most), v2(most, -most), v2(most, -most), 1, f(1<<26, 1)}, {v2(0, most), v2(-most, -most), v2(most, -most), v2(0, -most), 2, f(1<<52, 1<<26)},
		{v2(most, most), v2(-most, -most), v2(-most, -most), v2(-most, -most), 0, f(1<<27, 1)}, {v2(most, -most), v2(-most, -most), v2(most, most), v2(0, 0), 2, f(1<<52, 1<<27)},
	} {
		at, end, square, e := near.Edge(x.p, x.a, x.b)
		if at != x.at || end != x.end || square != x.square || e != api.OK {
			t.Errorf("Edge(%+v, %+v, %+v): %+v, %d, %+v, %d, want %+v, %d, %+v", x.p, x.a, x.b, at, end, square, e, x.at, x.end, x.square)
		}
	}
}

// P11.1: Edge, held against another reading.
func TestEdgeMany(t *testing.T) {
	l := points(1, 4*6000)
	found := [3]int{}
	for i := 0; i < len(l); i += 4 {
		for _, p := range []api.V2{l[i], l[i+3], l[i+1], v2((l[i+1].X+l[i+2].X)/2, (l[i+1].Y+l[i+2].Y)/2)} {
			a, b := l[i+1], l[i+2]
			want := plainFoot(p, a, b)
			found[want.end]++
			at, end, square, e := near.Edge(p, a, b)
			if at != want.at || end != want.end || !isSquare(square, want.square, want.over) || e != api.OK {
				t.Errorf("Edge(%+v, %+v, %+v): %+v, %d, %+v, %d, want %+v", p, a, b, at, end, square, e, want)
			}
		}
	}
	if min(found[0], found[1], found[2]) < 1000 {
		t.Errorf("too few of one kind: %v", found)
	}
}

// P11.1: Edge, if one is not small, whichever it is; beside an error all else is zero.
func TestEdgeWrong(t *testing.T) {
	a, b := v2(1, 2), v2(most, -most)
	for _, far := range fars() {
		for _, x := range []triangle{{far, a, b}, {a, far, b}, {a, b, far}, {far, far, a}, {far, a, far}, {a, far, far}, {a, a, far}, {far, far, far}} {
			at, end, square, e := near.Edge(x[0], x[1], x[2])
			if at != (api.V2{}) || end != 0 || square != (api.Frac{}) || e != api.ErrRange {
				t.Errorf("Edge of %+v: %+v, %d, %+v, %d", x, at, end, square, e)
			}
		}
	}
}

// plainClosest is what another reading of Closest finds: the first of the least feet.
func plainClosest(p api.V2, t triangle) foot {
	if plainIn(p, t) {
		return foot{p, 2, new(big.Rat), 1}
	}
	least := plainFoot(p, t[0], t[1])
	for i := 1; i < 3; i++ {
		if next := plainFoot(p, t[i], t[(i+1)%3]); next.square.Cmp(least.square) < 0 {
			least = next
		}
	}
	return least
}

// checkClosest holds Closest against what is wanted, and by P11.4 against how far the corners are.
func checkClosest(t *testing.T, p api.V2, x triangle) {
	t.Helper()
	want := plainClosest(p, x)
	at, square, e := near.Closest(p, x)
	if at != want.at || !isSquare(square, want.square, want.over) || e != api.OK {
		t.Errorf("Closest(%+v, %+v): %+v, %+v, %d, want %+v", p, x, at, square, e, want)
		return
	}
	for _, corner := range x {
		if squareTo(p, rat(corner.X, 1), rat(corner.Y, 1)).Cmp(rat(square.N, square.D)) < 0 {
			t.Errorf("Closest(%+v, %+v): %+v, %+v, but %+v is nearer", p, x, at, square, corner)
		}
	}
}

// P11.2: Closest, spelt out, with the document's example: inside, on the rim, off each edge and each corner, and the greatest ones.
func TestClosestTable(t *testing.T) {
	great := tri(-most, -most, most, -most, -most, most)
	for _, x := range []struct {
		t      triangle
		p, at  api.V2
		square api.Frac
	}{
		{first(), v2(3, 3), v2(2, 2), f(64, 32)}, {first(), v2(1, 1), v2(1, 1), f(0, 1)}, {first(), v2(2, 2), v2(2, 2), f(0, 1)}, {first(), v2(0, 0), v2(0, 0), f(0, 1)}, {first(), v2(0, 4), v2(0, 4), f(0, 1)}, {first(), v2(0, 3), v2(0, 3), f(0, 1)},
		{first(), v2(-3, -4), v2(0, 0), f(25, 1)}, {first(), v2(2, -3), v2(2, 0), f(144, 16)}, {first(), v2(-3, 2), v2(0, 2), f(144, 16)}, {first(), v2(9, 0), v2(4, 0), f(25, 1)}, {first(), v2(9, 1), v2(4, 0), f(26, 1)}, {first(), v2(0, 9), v2(0, 4), f(25, 1)}, {first(), v2(-1, 7), v2(0, 4), f(10, 1)},
		{first(), v2(3, 2), v2(2, 1), f(16, 32)}, {first(), v2(5, 5), v2(2, 2), f(576, 32)}, {first(), v2(6, 2), v2(4, 0), f(8, 1)}, {first(), v2(6, 3), v2(3, 0), f(400, 32)}, {first(), v2(4, -1), v2(4, 0), f(1, 1)}, {first(), v2(3, -1), v2(3, 0), f(16, 16)},
		{great, v2(most, most), v2(0, 0), f(1<<52, 1<<27)}, {great, v2(1, 0), v2(0, -1), f(1<<26, 1<<27)}, {great, v2(0, 0), v2(0, 0), f(0, 1)},
		{tri(most, most, most-1, most, most, most-1), v2(-most, -most), v2(most-1, most-1), f(16383*16383, 2)}, {tri(0, 0, most, most-1, most-1, most-2), v2(most, -most), v2(0, 0), f((2*most-3)*(2*most-3)*most*most, (most-1)*(most-1)+(most-2)*(most-2))},
	} {
		for _, y := range turned(x.t) {
			if at, square, e := near.Closest(x.p, y); at != x.at || square != x.square || e != api.OK {
				t.Errorf("Closest(%+v, %+v): %+v, %+v, %d, want %+v, %+v", x.p, y, at, square, e, x.at, x.square)
			}
		}
	}
}

// P11.2, P11.4: Closest of all triangles of nine points, and of all points round them, held against another reading.
func TestClosestAll(t *testing.T) {
	for m := range 9 * 9 * 9 {
		i, j, k := m/81, m/9%9, m%9
		x := tri(i/3, i%3, j/3, j%3, k/3, k%3)
		if plainArea(x[0], x[1], x[2]) == 0 {
			continue
		}
		for n := range 7 * 7 {
			checkClosest(t, v2(n/7-2, n%7-2), x)
		}
	}
}

// P11.2, P11.4: Closest of rolled ones, held against another reading.
func TestClosestMany(t *testing.T) {
	l := points(2, 4*4000)
	inside := 0
	for i := 0; i < len(l); i += 4 {
		x := triangle(l[i : i+3])
		if plainArea(x[0], x[1], x[2]) == 0 {
			continue
		}
		for _, p := range []api.V2{l[i+3], l[(i+4)%len(l)], v2((x[0].X+x[1].X+x[2].X)/3, (x[0].Y+x[1].Y+x[2].Y)/3), v2((x[0].X+x[1].X)/2, (x[0].Y+x[1].Y)/2)} {
			if plainIn(p, x) {
				inside++
			}
			checkClosest(t, p, x)
		}
	}
	if inside < 1000 || inside > 3*4000 {
		t.Errorf("inside: %d", inside)
	}
}

// P11.2: Closest, with two edges whose squares differ by so little that only whole numbers tell them apart.
func TestClosestThin(t *testing.T) {
	roll := rolls(3)
	for range 3000 {
		tip := v2(most-roll(3), most-roll(3))
		x := triangle{tip, v2(-most+roll(3), -most+roll(3)), v2(-most+roll(3), -most+roll(3))}
		if plainArea(x[0], x[1], x[2]) == 0 {
			continue
		}
		for _, y := range turned(x) {
			checkClosest(t, v2(most-roll(9), -most+roll(9)), y)
			checkClosest(t, v2(-roll(most), roll(most)), y)
		}
	}
}

// P11.2: Closest of a point that is not small, told ahead of a triangle that is not right; beside an error all else is zero.
func TestClosestWrong(t *testing.T) {
	check := func(p api.V2, x triangle, want api.Errno) {
		t.Helper()
		if at, square, e := near.Closest(p, x); at != (api.V2{}) || square != (api.Frac{}) || e != want {
			t.Errorf("Closest(%+v, %+v): %+v, %+v, %d, want %d", p, x, at, square, e, want)
		}
	}
	for _, far := range fars() {
		for _, x := range append(wrongs(), first()) {
			check(far, x, api.ErrRange)
		}
	}
	for _, x := range wrongs() {
		for _, p := range []api.V2{{}, v2(1, 1), v2(most, -most)} {
			check(p, x, api.ErrArg)
		}
	}
}
