package limits

import "testing"

func TestInside(t *testing.T) {
	if !Inside(1, 1, 1) || !Inside(3, 1, 3) || Inside(0, 1, 3) || Inside(4, 1, 3) || Inside(2, 3, 1) {
		t.Error("Inside")
	}
}
