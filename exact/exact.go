// Package exact lets the layers write formulas of ratios as a whole: the first error is remembered.
package exact

import (
	"slices"

	"betatron/api"
	"betatron/integer"
	"betatron/ratio"
)

// Work computes with ratios; Err is the first error. Behind an error all results are 0/1.
type Work struct{ Err api.Errno }

// Zero returns 0/1.
func Zero() api.Ratio { return Whole(0) }

// One returns 1/1.
func One() api.Ratio { return Whole(1) }

// Whole returns an int as a ratio.
func Whole(n int) api.Ratio {
	return api.Ratio{Num: integer.Of(n), Den: integer.Of(1)}
}

// Fraction returns num/den; both are from -2^60 to 2^60, and den is not 0.
func Fraction(num, den int) api.Ratio {
	r, _ := ratio.Of(num, den)
	return r
}

// Sign returns the sign of a valid ratio: -1, 0 or 1.
func Sign(r api.Ratio) int {
	switch {
	case len(r.Num.Groups) == 0:
		return 0
	case r.Num.Negative:
		return -1
	}
	return 1
}

// IsZero reports whether a valid ratio is 0.
func IsZero(r api.Ratio) bool { return Sign(r) == 0 }

// Neg returns the opposite of a valid ratio.
func Neg(r api.Ratio) api.Ratio {
	c := Copy(r)
	c.Num.Negative = !c.Num.Negative && len(c.Num.Groups) > 0
	return c
}

// Abs returns the size of a valid ratio.
func Abs(r api.Ratio) api.Ratio {
	c := Copy(r)
	c.Num.Negative = false
	return c
}

// Copy returns a ratio with memory of its own.
func Copy(r api.Ratio) api.Ratio {
	r.Num.Groups = slices.Clone(r.Num.Groups)
	r.Den.Groups = slices.Clone(r.Den.Groups)
	return r
}

// Same reports whether all fields of two ratios are equal.
func Same(a, b api.Ratio) bool {
	return sameInteger(a.Num, b.Num) && sameInteger(a.Den, b.Den)
}

func sameInteger(a, b api.Integer) bool {
	return a.Negative == b.Negative && slices.Equal(a.Groups, b.Groups)
}

// AllValid reports whether all ratios of a list are valid.
func AllValid(l ...api.Ratio) bool {
	for _, r := range l {
		if !ratio.Valid(r) {
			return false
		}
	}
	return true
}

func (w *Work) keep(r api.Ratio, e api.Errno) api.Ratio {
	if e != api.OK {
		w.Err = e
		return Zero()
	}
	return r
}

// Add returns the sum of some ratios.
func (w *Work) Add(r api.Ratio, more ...api.Ratio) api.Ratio {
	for _, s := range more {
		if w.Err != api.OK {
			return Zero()
		}
		r = w.keep(ratio.Add(r, s))
	}
	return r
}

// Sub returns the difference.
func (w *Work) Sub(r, s api.Ratio) api.Ratio {
	if w.Err != api.OK {
		return Zero()
	}
	return w.keep(ratio.Sub(r, s))
}

// Mul returns the product of some ratios.
func (w *Work) Mul(r api.Ratio, more ...api.Ratio) api.Ratio {
	for _, s := range more {
		if w.Err != api.OK {
			return Zero()
		}
		r = w.keep(ratio.Mul(r, s))
	}
	return r
}

// Div returns the quotient.
func (w *Work) Div(r, s api.Ratio) api.Ratio {
	if w.Err != api.OK {
		return Zero()
	}
	return w.keep(ratio.Div(r, s))
}

// Dot returns the sum of the products of two lists of one length.
func (w *Work) Dot(a, b []api.Ratio) api.Ratio {
	sum := Zero()
	for i := range a {
		if !IsZero(a[i]) && !IsZero(b[i]) {
			sum = w.Add(sum, w.Mul(a[i], b[i]))
		}
	}
	return sum
}

// Floor returns the greatest integer that is at most a ratio, as a ratio.
func (w *Work) Floor(r api.Ratio) api.Ratio {
	if w.Err != api.OK {
		return Zero()
	}
	n, e := ratio.Floor(r)
	if e != api.OK {
		w.Err = e
		return Zero()
	}
	return api.Ratio{Num: n, Den: integer.Of(1)}
}

// SmallFloor returns the greatest integer that is at most a ratio; an error, if it is beyond 2^60.
func (w *Work) SmallFloor(r api.Ratio) int {
	n, e := integer.Small(w.Floor(r).Num)
	if e != api.OK && w.Err == api.OK {
		w.Err = e
	}
	return n
}

// SmallCeiling returns the least integer that is at least a ratio; an error, if it is beyond 2^60.
func (w *Work) SmallCeiling(r api.Ratio) int {
	return -w.SmallFloor(Neg(r))
}
