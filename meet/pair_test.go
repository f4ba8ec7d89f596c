package meet_test

import (
	"math/big"
	"testing"

	"limewash/api"
	"limewash/meet"
)

// spot is a point between small ones.
type spot struct {
	x, y *big.Rat
}

func newSpot(p api.V2) spot {
	return spot{big.NewRat(int64(p.X), 1), big.NewRat(int64(p.Y), 1)}
}

// times gives a times b.
func times(a, b *big.Rat) *big.Rat {
	return new(big.Rat).Mul(a, b)
}

// less gives a less b.
func less(a, b *big.Rat) *big.Rat {
	return new(big.Rat).Sub(a, b)
}

// area gives twice the area of three spots.
func area(a, b, c spot) *big.Rat {
	return less(times(less(b.x, a.x), less(c.y, a.y)), times(less(b.y, a.y), less(c.x, a.x)))
}

// toward gives the spot that lies so much of the way from a to b.
func toward(a, b spot, much *big.Rat) spot {
	x, y := times(less(b.x, a.x), much), times(less(b.y, a.y), much)
	return spot{x.Add(x, a.x), y.Add(y, a.y)}
}

// cut gives what is left of a row of spots round some ground that is on the left of the way from a to b, or on it.
func cut(l []spot, a, b spot) []spot {
	var left []spot
	for i, p := range l {
		q := l[(i+1)%len(l)]
		m, n := area(a, b, p), area(a, b, q)
		if m.Sign() >= 0 {
			left = append(left, p)
		}
		if m.Sign()*n.Sign() < 0 {
			left = append(left, toward(p, q, times(m, new(big.Rat).Inv(less(m, n)))))
		}
	}
	return left
}

// shared gives a row of spots round what a and b share.
func shared(a, b triangle) []spot {
	if plainArea(b[0], b[1], b[2]) < 0 {
		b[0], b[1] = b[1], b[0]
	}
	l := []spot{newSpot(a[0]), newSpot(a[1]), newSpot(a[2])}
	for i := range b {
		l = cut(l, newSpot(b[i]), newSpot(b[(i+1)%3]))
	}
	return l
}

// plainPair is Overlap and Touch of right triangles, by what they share: if it has an area, and if it has a spot.
func plainPair(a, b triangle) (bool, bool) {
	l := shared(a, b)
	for i := range l {
		if area(l[0], l[i], l[(i+1)%len(l)]).Sign() != 0 {
			return true, true
		}
	}
	return false, len(l) > 0
}

// checkPair holds Overlap and Touch of a and b, both ways, against what is wanted.
func checkPair(t *testing.T, a, b triangle, overlap, touch bool) {
	t.Helper()
	for _, x := range [][2]triangle{{a, b}, {b, a}} {
		if ok, e := meet.Overlap(x[0], x[1]); ok != overlap || e != api.OK {
			t.Errorf("Overlap(%+v, %+v): %t, %d", x[0], x[1], ok, e)
		}
		if ok, e := meet.Touch(x[0], x[1]); ok != touch || e != api.OK {
			t.Errorf("Touch(%+v, %+v): %t, %d", x[0], x[1], ok, e)
		}
	}
}

// P10.2: Overlap and Touch, spelt out, with the document's example, in all orders of points.
func TestPairTable(t *testing.T) {
	great := tri(-most, -most, most, -most, -most, most)
	for _, x := range []struct {
		a, b           triangle
		overlap, touch bool
	}{
		{first(), tri(4, 4, 4, 0, 0, 4), false, true}, {first(), first(), true, true}, {first(), tri(1, 1, 2, 1, 1, 2), true, true}, {first(), tri(-2, -2, 9, -2, -2, 9), true, true},
		{first(), tri(0, 0, 2, 0, 0, 2), true, true}, {first(), tri(0, 0, 4, 0, 1, 1), true, true}, {first(), tri(0, 0, 4, 0, 1, -1), false, true}, {first(), tri(4, 0, 9, 0, 9, 9), false, true}, {first(), tri(5, 0, 9, 0, 9, 9), false, false},
		{first(), tri(-1, 1, 9, 1, 9, 2), true, true}, {first(), tri(3, 3, 5, 3, 3, 5), false, false}, {first(), tri(0, 0, -4, 0, 0, -4), false, true}, {first(), tri(2, 2, 4, 3, 3, 4), false, true}, {first(), tri(2, 2, 4, 4, 3, 4), false, true},
		{first(), tri(1, 0, 3, 0, 2, -1), false, true}, {first(), tri(-3, 0, 7, 0, 2, -1), false, true}, {first(), tri(-3, 0, 7, 0, 2, 1), true, true}, {first(), tri(5, 0, 7, 0, 6, -1), false, false}, {first(), tri(2, -1, 3, -3, 1, -3), false, false},
		{first(), tri(5, -1, 3, 1, 9, 9), false, true}, {first(), tri(6, -1, 3, 2, 9, 9), false, false}, {first(), tri(5, -2, 3, 1, 9, 9), true, true}, {first(), tri(6, -2, 3, 1, 9, 9), false, true},
		{great, tri(0, 0, most, most, most, most-1), false, true}, {great, tri(1, 0, most, most, most, most-1), false, false}, {great, tri(-1, 0, most, most, most, most-1), true, true}, {great, tri(most, most, -most, most, most, -most), false, true}, {great, tri(1-most, 1-most, 2-most, 1-most, 1-most, 2-most), true, true},
		{tri(0, 0, 9, 9, 9, 8), tri(0, 0, 9, 9, 8, 9), false, true}, {tri(0, 0, 9, 9, 9, 8), tri(-1, -1, 9, 9, 8, 9), false, true}, {tri(0, 3, 6, 3, 3, -6), tri(0, -3, 6, -3, 3, 6), true, true},
	} {
		for _, a := range turned(x.a) {
			for _, b := range turned(x.b) {
				checkPair(t, a, b, x.overlap, x.touch)
			}
		}
	}
}

// P10.2, P10.4: Overlap and Touch of all pairs of triangles of nine points, held against what they share.
func TestPairAll(t *testing.T) {
	var l []triangle
	for m := range 9 * 9 * 9 {
		i, j, k := m/81, m/9%9, m%9
		if x := tri(i/3, i%3, j/3, j%3, k/3, k%3); i < j && j < k && plainArea(x[0], x[1], x[2]) != 0 {
			l = append(l, x)
		}
	}
	for i, a := range l {
		for _, b := range l[:i+1] {
			overlap, touch := plainPair(a, b)
			checkPair(t, a, b, overlap, touch)
		}
	}
}

// P10.2, P10.4: Overlap and Touch of rolled triangles, held against what they share.
func TestPairMany(t *testing.T) {
	a, b := triangles(5, 2400), triangles(6, 2400)
	found := map[[2]bool]int{}
	for i := range min(len(a), len(b)) {
		overlap, touch := plainPair(a[i], b[i])
		found[[2]bool{overlap, touch}]++
		checkPair(t, a[i], b[i], overlap, touch)
	}
	if found[[2]bool{false, false}] < 100 || found[[2]bool{false, true}] < 50 || found[[2]bool{true, true}] < 100 {
		t.Errorf("too few of one kind: %v", found)
	}
}

// P10.2: Overlap and Touch, if one is not right, or both; beside an error all else is zero.
func TestPairWrong(t *testing.T) {
	for _, x := range wrongs() {
		for _, y := range [][2]triangle{{x, first()}, {first(), x}, {x, x}, {x, {}}, {tri(9, 9, 1, 1, 2, 2), x}} {
			if ok, e := meet.Overlap(y[0], y[1]); ok || e != api.ErrArg {
				t.Errorf("Overlap(%+v, %+v): %t, %d", y[0], y[1], ok, e)
			}
			if ok, e := meet.Touch(y[0], y[1]); ok || e != api.ErrArg {
				t.Errorf("Touch(%+v, %+v): %t, %d", y[0], y[1], ok, e)
			}
		}
	}
}

// P10.4: if a point is inside both, their insides meet; if a point is in both, they touch; what overlaps touches.
func TestPairPoints(t *testing.T) {
	roll := rolls(8)
	point := func() api.V2 { return v2(roll(13), roll(13)) }
	inside := 0
	for range 3000 {
		a, b := triangle{point(), point(), point()}, triangle{point(), point(), point()}
		if !meet.Right(a) || !meet.Right(b) {
			continue
		}
		overlap, _ := meet.Overlap(a, b)
		touch, _ := meet.Touch(a, b)
		for m := range 13 * 13 {
			p := v2(m/13, m%13)
			k, _ := meet.In(p, a)
			n, _ := meet.In(p, b)
			if min(k, n) == 2 {
				inside++
			}
			if min(k, n) == 2 && !overlap || min(k, n) > 0 && !touch {
				t.Errorf("%+v is in %+v: %d, and in %+v: %d; Overlap: %t, Touch: %t", p, a, k, b, n, overlap, touch)
			}
		}
		if overlap && !touch {
			t.Errorf("%+v and %+v overlap, but do not touch", a, b)
		}
	}
	if inside < 1000 {
		t.Errorf("only %d points inside both", inside)
	}
}

// P10.4: turned round, moved, or mirrored in the whole, nothing of two triangles is turned.
func TestPairTurned(t *testing.T) {
	a, b := triangles(9, 800), triangles(10, 800)
	for i := range min(len(a), len(b)) {
		overlap, _ := meet.Overlap(a[i], b[i])
		touch, _ := meet.Touch(a[i], b[i])
		for _, x := range turned(a[i]) {
			checkPair(t, x, b[i], overlap, touch)
			checkPair(t, mirrored(x), mirrored(turned(b[i])[i%6]), overlap, touch)
		}
	}
}

// mirrored gives t with X and Y changed, and seen from the other side.
func mirrored(t triangle) triangle {
	for i, p := range t {
		t[i] = v2(-p.Y, p.X)
	}
	return t
}
