package ramp

import (
	"betatron/api"
	"betatron/exact"
	"betatron/polynomial"
	"betatron/ratio"
)

const (
	conditions = 6
	mostDigits = 8
)

// condition says that a polynomial is at most a limit.
type condition struct {
	left  api.Poly
	limit api.Ratio
}

// conditionsOf returns the six conditions of a segment.
func conditionsOf(s api.Segment, l api.Limits) ([conditions]condition, api.Errno) {
	var result [conditions]condition
	change, e := polynomial.Derivative(s.Poly)
	if e != api.OK {
		return result, e
	}
	v, e := voltage(s, l)
	if e != api.OK {
		return result, e
	}
	return [conditions]condition{
		{s.Poly, l.High}, {opposite(s.Poly), exact.Neg(l.Low)},
		{change, l.Slope}, {opposite(change), exact.Copy(l.Slope)},
		{v, l.VoltageHigh}, {opposite(v), exact.Neg(l.VoltageLow)},
	}, api.OK
}

func opposite(p api.Poly) api.Poly {
	var result api.Poly
	for _, c := range p.Coeffs {
		result.Coeffs = append(result.Coeffs, exact.Neg(c))
	}
	return result
}

func span(s api.Segment) api.Interval {
	return api.Interval{Low: exact.Zero(), High: duration(s)}
}

// Prove returns the proof that the limits are kept, or the error ErrConflict.
func Prove(r api.Ramp, l api.Limits) (api.RampProof, api.Errno) {
	if e := bothErrors(r, l); e != api.OK {
		return api.RampProof{}, e
	}
	var proof api.RampProof
	for _, s := range r.Segments {
		all, e := conditionsOf(s, l)
		if e != api.OK {
			return api.RampProof{}, e
		}
		var parts [][]api.Ratio
		for _, c := range all {
			points, e := polynomial.Above(c.left, span(s), c.limit)
			if e != api.OK {
				return api.RampProof{}, e
			}
			parts = append(parts, points)
		}
		proof.Points = append(proof.Points, parts)
	}
	return proof, api.OK
}

// Check reports whether a proof is right.
func Check(r api.Ramp, l api.Limits, p api.RampProof) bool {
	if bothErrors(r, l) != api.OK || len(p.Points) != len(r.Segments) {
		return false
	}
	for i, s := range r.Segments {
		all, e := conditionsOf(s, l)
		if e != api.OK || len(p.Points[i]) != conditions {
			return false
		}
		for k, c := range all {
			if !polynomial.CheckAbove(c.left, span(s), c.limit, p.Points[i][k]) {
				return false
			}
		}
	}
	return true
}

// Violation returns the first condition that does not hold, with a time.
func Violation(r api.Ramp, l api.Limits) (api.Violation, api.Errno) {
	if e := bothErrors(r, l); e != api.OK {
		return api.Violation{}, e
	}
	for i, s := range r.Segments {
		all, e := conditionsOf(s, l)
		if e != api.OK {
			return api.Violation{}, e
		}
		for k, c := range all {
			f, e := polynomial.Add(constant(c.limit), opposite(c.left))
			if e != api.OK {
				return api.Violation{}, e
			}
			negative, e := isNegativeSomewhere(f, duration(s))
			if e != api.OK {
				return api.Violation{}, e
			}
			if negative {
				return violationAt(i, k+1, s, f)
			}
		}
	}
	return api.Violation{}, api.ErrNone
}

func violationAt(segment, number int, s api.Segment, f api.Poly) (api.Violation, api.Errno) {
	x, e := negativePoint(f, duration(s))
	if e != api.OK {
		return api.Violation{}, e
	}
	var w exact.Work
	time := w.Add(exact.Whole(s.From), w.Mul(x, exact.Whole(perSecond)))
	if w.Err != api.OK {
		return api.Violation{}, w.Err
	}
	return api.Violation{Segment: segment, Condition: number, Time: time}, api.OK
}

func signAt(f api.Poly, x api.Ratio) (int, api.Errno) {
	value, e := polynomial.Eval(f, x)
	if e != api.OK {
		return 0, e
	}
	return exact.Sign(value), api.OK
}

// isNegativeSomewhere decides whether f is less than 0 somewhere from 0 to end.
func isNegativeSomewhere(f api.Poly, end api.Ratio) (bool, api.Errno) {
	if len(f.Coeffs) == 0 {
		return false, api.OK
	}
	low, e := signAt(f, exact.Zero())
	if e != api.OK {
		return false, e
	}
	high, e := signAt(f, end)
	if e != api.OK {
		return false, e
	}
	if low < 0 || high < 0 {
		return true, api.OK
	}
	return dips(f, exact.Zero(), end, low, high)
}

// dips decides the same for the inside of a part at whose ends f is not negative (with these signs).
func dips(f api.Poly, from, to api.Ratio, low, high int) (bool, api.Errno) {
	roots, e := polynomial.Roots(f, api.Interval{Low: from, High: to})
	if e != api.OK {
		return false, e
	}
	// With a single root inside, or none, a positive end decides about its side of it.
	if roots == 0 || low > 0 && high > 0 && roots == 1 {
		return false, api.OK
	}
	if low > 0 && high == 0 && roots == 1 {
		return false, api.OK
	}
	var w exact.Work
	middle := w.Div(w.Add(from, to), exact.Whole(2))
	if w.Err != api.OK {
		return false, w.Err
	}
	sign, e := signAt(f, middle)
	if e != api.OK || sign < 0 {
		return sign < 0, e
	}
	if left, e := dips(f, from, middle, low, sign); left || e != api.OK {
		return left, e
	}
	return dips(f, middle, to, sign, high)
}

// negativePoint looks for a point at which f is less than 0, in the order of the document; ErrTooLarge.
func negativePoint(f api.Poly, end api.Ratio) (api.Ratio, api.Errno) {
	for _, x := range []api.Ratio{exact.Zero(), end} {
		if sign, e := signAt(f, x); e != api.OK || sign < 0 {
			return x, e
		}
	}
	derivative, e := polynomial.Derivative(f)
	if e != api.OK {
		return api.Ratio{}, e
	}
	for digits := 0; digits <= mostDigits && len(derivative.Coeffs) > 0; digits++ {
		cells, e := polynomial.Isolate(derivative, api.Interval{Low: exact.Zero(), High: end}, digits)
		if e != api.OK {
			return api.Ratio{}, e
		}
		for _, cell := range cells {
			for _, x := range []api.Ratio{cell.Low, cell.High} {
				if exact.Sign(x) < 0 || ratio.Cmp(x, end) > 0 {
					continue
				}
				if sign, e := signAt(f, x); e != api.OK || sign < 0 {
					return x, e
				}
			}
		}
	}
	return api.Ratio{}, api.ErrTooLarge
}
