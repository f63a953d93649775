package exact

import (
	"testing"

	"betatron/api"
)

func TestWork(t *testing.T) {
	var w Work
	if r := w.Add(One(), w.Mul(Fraction(1, 2), Whole(4)), Neg(Fraction(3, 2))); !Same(r, Fraction(3, 2)) || w.Err != api.OK {
		t.Errorf("sum: %v %d", r, w.Err)
	}
	if w.SmallFloor(Fraction(-3, 2)) != -2 || w.SmallCeiling(Fraction(-3, 2)) != -1 || Sign(Abs(Whole(-2))) != 1 {
		t.Error("floor, ceiling and size")
	}
	if r := w.Add(w.Div(One(), Zero()), One()); w.Err != api.ErrSingular || !IsZero(r) {
		t.Errorf("an error is not remembered: %v %d", r, w.Err)
	}
	r := One()
	Copy(r).Num.Groups[0] = 7
	if !Same(r, One()) || !AllValid(r, Zero()) || AllValid(r, api.Ratio{}) {
		t.Error("copies and validity")
	}
}
