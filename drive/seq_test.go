package drive

import "testing"

// A page that is moved is of the same version still, and has a greater Seq: till it was moved so often that it stays as it is.
func TestMovedSeq(t *testing.T) {
	for _, start := range []int{0, 1 << movedBits, 77 << movedBits, 1<<40 - 1<<movedBits} {
		seq := start
		for n := range 3 * movedMost {
			next := movedSeq(seq)
			if versionOf(next) != versionOf(start) || next >= 1<<40 {
				t.Fatalf("moved %d times %d is %d", n, start, next)
			}
			if (next > seq) != (n < movedMost) {
				t.Fatalf("moved %d times %d is %d, then %d", n, start, seq, next)
			}
			seq = next
		}
	}
	if versionOf(-1) != -1 {
		t.Errorf("the version ahead of the first one is %d", versionOf(-1))
	}
}
