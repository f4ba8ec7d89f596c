package meet_test

import (
	"math"
	"testing"

	"limewash/api"
	"limewash/meet"
)

// plainSquare is Square, by the two triangles of which the square is made.
func plainSquare(at api.V2, side int, t triangle) bool {
	far := v2(at.X+side, at.Y+side)
	a, _ := meet.Touch(t, triangle{at, far, v2(far.X, at.Y)})
	b, _ := meet.Touch(t, triangle{at, far, v2(at.X, far.Y)})
	return a || b
}

// P10.3: Square, spelt out, with the document's example; rims count, and what is only near does not.
func TestSquareTable(t *testing.T) {
	great := tri(-most, -most, most, -most, -most, most)
	for _, x := range []struct {
		t    triangle
		at   api.V2
		side int
		want bool
	}{
		{first(), v2(4, 0), 2, true}, {first(), v2(0, 0), 1, true}, {first(), v2(1, 1), 1, true}, {first(), v2(-1, -1), 9, true}, {first(), v2(2, 2), 5, true}, {first(), v2(3, 2), 5, false}, {first(), v2(2, 3), 1, false}, {first(), v2(3, 3), 2, false},
		{first(), v2(-2, -2), 2, true}, {first(), v2(-3, -3), 2, false}, {first(), v2(-2, 1), 2, true}, {first(), v2(-3, 1), 2, false}, {first(), v2(1, -2), 2, true}, {first(), v2(1, -3), 2, false}, {first(), v2(0, 4), 1, true}, {first(), v2(0, 5), 1, false}, {first(), v2(5, 0), 3, false},
		{first(), v2(-1, 4), 1, true}, {first(), v2(-2, 4), 1, false}, {first(), v2(4, -1), 1, true}, {first(), v2(4, -2), 1, false}, {first(), v2(-most, -most), most, true}, {first(), v2(-most, -most), most - 1, false}, {first(), v2(0, 0), most, true},
		{first(), v2(5, 5), 1, false}, {first(), v2(-9, 0), 4, false}, {first(), v2(-9, 9), 4, false}, {first(), v2(9, -9), 4, false},
		{great, v2(0, 0), 1, true}, {great, v2(0, 0), most, true}, {great, v2(1, 0), 1, false}, {great, v2(0, 1), most - 1, false}, {great, v2(most-1, most-1), 1, false}, {great, v2(most-1, -most), 1, true}, {great, v2(most-1, 1-most), 1, true}, {great, v2(most-1, 2-most), 1, false},
		{tri(0, 10, 10, 0, 10, 10), v2(0, 0), 5, true}, {tri(0, 10, 10, 0, 10, 10), v2(0, 0), 4, false}, {tri(0, 0, 10, 10, 0, 10), v2(5, 0), 5, true}, {tri(0, 0, 10, 10, 0, 10), v2(6, 0), 5, false}, {tri(0, 0, 10, 10, 10, 0), v2(0, 5), 5, true}, {tri(0, 0, 10, 10, 10, 0), v2(0, 6), 5, false},
		{tri(-9, 4, 20, 5, 20, 6), v2(3, 0), 5, true}, {tri(-9, 4, 20, 5, 20, 6), v2(3, 0), 4, false}, {tri(-9, 4, 20, 5, 20, 6), v2(3, 6), 5, false},
	} {
		for _, y := range turned(x.t) {
			if ok, e := meet.Square(x.at, x.side, y); ok != x.want || e != api.OK {
				t.Errorf("Square(%+v, %d, %+v): %t, %d, want %t", x.at, x.side, y, ok, e, x.want)
			}
		}
	}
}

// P10.3, P10.4: Square round every small triangle, and of rolled ones, held against another reading.
func TestSquareMany(t *testing.T) {
	roll := rolls(11)
	found := map[bool]int{}
	for i, x := range triangles(12, 4000) {
		reach := []int{4, 8, 30, most}[i%4]
		for range 3 {
			at := v2(roll(2*reach)-reach, roll(2*reach)-reach)
			side := 1 + roll(min(reach, most-max(at.X, at.Y)))
			want := plainSquare(at, side, x)
			found[want]++
			if ok, e := meet.Square(at, side, x); ok != want || e != api.OK {
				t.Errorf("Square(%+v, %d, %+v): %t, %d, want %t", at, side, x, ok, e, want)
			}
		}
	}
	if found[true] < 1000 || found[false] < 1000 {
		t.Errorf("too few of one kind: %v", found)
	}
}

// P10.3, P10.4: a square meets a triangle, if a point is in both.
func TestSquarePoints(t *testing.T) {
	roll := rolls(13)
	for range 3000 {
		x := triangle{v2(roll(13), roll(13)), v2(roll(13), roll(13)), v2(roll(13), roll(13))}
		if !meet.Right(x) {
			continue
		}
		at, side := v2(roll(13), roll(13)), 1+roll(4)
		shared := false
		for m := range (side + 1) * (side + 1) {
			n, _ := meet.In(v2(at.X+m/(side+1), at.Y+m%(side+1)), x)
			shared = shared || n > 0
		}
		if ok, e := meet.Square(at, side, x); shared && !ok || e != api.OK {
			t.Errorf("Square(%+v, %d, %+v): %t, %d", at, side, x, ok, e)
		}
	}
}

// P10.3: Square of what is not small, told ahead of a triangle that is not right; beside an error all else is zero.
func TestSquareWrong(t *testing.T) {
	type square struct {
		at   api.V2
		side int
	}
	l := []square{
		{v2(0, 0), 0}, {v2(0, 0), -1}, {v2(0, 0), most + 1}, {v2(-most, -most), most + 1}, {v2(-most, -most), 2 * most}, {v2(0, 0), math.MaxInt}, {v2(0, 0), math.MinInt}, {v2(-1, -1), math.MinInt}, {v2(most, most), math.MaxInt}, {v2(-most, 0), 1 << 62}, {v2(4, 4), -4}, {v2(4, 4), 1 << 32},
		{v2(most, 0), 1}, {v2(0, most), 1}, {v2(1, 0), most}, {v2(0, 1), most}, {v2(most, most), 1}, {v2(most-5, 0), 6}, {v2(0, most-5), 6}, {v2(-most-1, 0), 1}, {v2(0, -most-1), 2}, {v2(-most-1, -most-1), most}, {v2(math.MaxInt, 0), 1}, {v2(0, math.MaxInt), most}, {v2(math.MaxInt, math.MaxInt), math.MaxInt},
	}
	for _, far := range fars() {
		l = append(l, square{far, 1}, square{far, most}, square{far, 0})
	}
	for _, x := range l {
		for _, y := range append(wrongs()[:20], first(), tri(-most, -most, most, -most, -most, most)) {
			if ok, e := meet.Square(x.at, x.side, y); ok || e != api.ErrRange {
				t.Errorf("Square(%+v, %d, %+v): %t, %d", x.at, x.side, y, ok, e)
			}
		}
	}
	for _, x := range wrongs() {
		for _, y := range []square{{v2(0, 0), 1}, {v2(-1, -1), 4}, {v2(-most, -most), most}, {v2(0, 0), most}} {
			if ok, e := meet.Square(y.at, y.side, x); ok || e != api.ErrArg {
				t.Errorf("Square(%+v, %d, %+v): %t, %d", y.at, y.side, x, ok, e)
			}
		}
	}
}
