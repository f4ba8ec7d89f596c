package word

import "testing"

// Going through the lines may stop at any of them.
func TestLinesStop(t *testing.T) {
	for stop := 1; stop <= 4; stop++ {
		n := 0
		for range lines("a\nb\\\nc\n\nd\\") {
			n++
			if n == stop {
				break
			}
		}
		if n != stop {
			t.Errorf("stopped at line %d of 4, not at %d", n, stop)
		}
	}
}
