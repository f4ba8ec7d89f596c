// Package wide holds whole numbers that no int has room for, in two parts: so many times api.Base, and what is left.
package wide

import (
	"strconv"
	"strings"

	"limewash/api"
)

// half is the root of api.Base: the product of two parts that are no greater is still an int.
const half = 1000000000

// places is how many tens' places a Lo fills behind a Hi.
const places = 18

// Is tells whether a is right.
func Is(a api.Wide) bool {
	return a.Lo >= 0 && a.Lo < api.Base && a.Hi >= -api.MaxHi && a.Hi <= api.MaxHi
}

// Of gives the right one of the number n; every int has one.
func Of(n int) api.Wide {
	hi, lo := floor(n, api.Base)
	return api.Wide{Hi: hi, Lo: lo}
}

// Mul gives the product of a and b, neither further from 0 than api.Base (ErrLimit).
func Mul(a, b int) (api.Wide, api.Errno) {
	if !isFactor(a) || !isFactor(b) {
		return api.Wide{}, api.ErrLimit
	}
	p, q := halves(a), halves(b)
	up, middle := floor(p[0]*q[1]+p[1]*q[0], half)
	return carry(p[0]*q[0]+up, middle*half+p[1]*q[1]), api.OK
}

// Add gives the sum of all, of none that of 0: ErrArg ahead of ErrWide, even if a sum is too great before the wrong one comes.
func Add(l ...api.Wide) (api.Wide, api.Errno) {
	for _, a := range l {
		if !Is(a) {
			return api.Wide{}, api.ErrArg
		}
	}
	sum := api.Wide{}
	for _, a := range l {
		sum = carry(sum.Hi+a.Hi, sum.Lo+a.Lo)
		if !Is(sum) {
			return api.Wide{}, api.ErrWide
		}
	}
	return sum, api.OK
}

// Neg gives a taken from 0; the greatest ones have no other side (ErrWide), as there is less room below 0 than above.
func Neg(a api.Wide) (api.Wide, api.Errno) {
	if !Is(a) {
		return api.Wide{}, api.ErrArg
	}
	b := carry(-a.Hi, -a.Lo)
	if !Is(b) {
		return api.Wide{}, api.ErrWide
	}
	return b, api.OK
}

// Cmp compares any two by Hi, then by Lo: right ones stand as their numbers.
func Cmp(a, b api.Wide) int {
	if a == b {
		return 0
	}
	if a.Hi < b.Hi || a.Hi == b.Hi && a.Lo < b.Lo {
		return -1
	}
	return 1
}

// Int gives a's number, if it is an int (ErrWide).
func Int(a api.Wide) (int, api.Errno) {
	if !Is(a) {
		return 0, api.ErrArg
	}
	// Where this wraps round, n is another number than a's, and a number has no more than one right Wide.
	n := a.Hi*api.Base + a.Lo
	if Of(n) != a {
		return 0, api.ErrWide
	}
	return n, api.OK
}

// Div divides a by n, from 1 to api.MaxDiv, downwards: what is left is never below 0.
func Div(a api.Wide, n int) (api.Wide, int, api.Errno) {
	if !Is(a) || n < 1 || n > api.MaxDiv {
		return api.Wide{}, 0, api.ErrArg
	}
	hi, left := floor(a.Hi, n)
	lo := halves(a.Lo)
	for i, h := range lo {
		// What is left is below MaxDiv, so that half as many again is below Base.
		lo[i], left = floor(left*half+h, n)
	}
	return api.Wide{Hi: hi, Lo: lo[0]*half + lo[1]}, left, api.OK
}

// Text tells a's number in tens; of one that is not right it tells nothing.
func Text(a api.Wide) string {
	if !Is(a) {
		return ""
	}
	if a.Hi < 0 {
		// All that are below 0 have another side.
		b, _ := Neg(a)
		return "-" + digits(b)
	}
	return digits(a)
}

// isFactor tells whether Mul takes n.
func isFactor(n int) bool {
	return n >= -api.Base && n <= api.Base
}

// floor divides n by d, which is above 0, downwards; Go's own division goes towards 0.
func floor(n, d int) (int, int) {
	q, left := n/d, n%d
	if left < 0 {
		return q - 1, left + d
	}
	return q, left
}

// halves gives n's upper and lower half; the sign stays with the upper one.
func halves(n int) [2]int {
	upper, lower := floor(n, half)
	return [2]int{upper, lower}
}

// carry brings lo between 0 and Base; whether hi is too great then, the caller has to ask.
func carry(hi, lo int) api.Wide {
	a := Of(lo)
	a.Hi += hi
	return a
}

// digits tells a right one that is not below 0.
func digits(a api.Wide) string {
	lower := strconv.Itoa(a.Lo)
	if a.Hi == 0 {
		return lower
	}
	return strconv.Itoa(a.Hi) + strings.Repeat("0", places-len(lower)) + lower
}
