package polynomial

import (
	"betatron/api"
	"betatron/exact"
	"betatron/integer"
	"betatron/interval"
	"betatron/ratio"
)

// Roots returns the number of different roots in the half-open interval (Low, High].
func Roots(p api.Poly, i api.Interval) (int, api.Errno) {
	c, e := newChain(p, i)
	if e != api.OK {
		return 0, e
	}
	n := c.changes(i.Low) - c.changes(i.High)
	if c.work.Err != api.OK {
		return 0, c.work.Err
	}
	return n, api.OK
}

// Isolate returns the grid cells of the roots in the half-open interval.
func Isolate(p api.Poly, i api.Interval, digits int) ([]api.Interval, api.Errno) {
	if e := rootErrors(p, i); e != api.OK {
		return nil, e
	}
	most := exact.Whole(mostEnd)
	if digits < 0 || digits > mostDigits || ratio.Cmp(i.Low, exact.Neg(most)) < 0 || ratio.Cmp(i.High, most) > 0 {
		return nil, api.ErrRange
	}
	c, e := newChain(p, i)
	if e != api.OK {
		return nil, e
	}
	unit := 1
	for range digits {
		unit *= 10
	}
	first := c.changes(i.Low)
	count := first - c.changes(i.High)
	low := c.work.SmallFloor(c.work.Mul(i.Low, exact.Whole(unit)))
	high := c.work.SmallCeiling(c.work.Mul(i.High, exact.Whole(unit)))
	var cells []api.Interval
	for root := 1; root <= count && c.work.Err == api.OK; root++ {
		k := c.lastBefore(root, first, low, high, unit)
		cells = append(cells, api.Interval{Low: exact.Fraction(k, unit), High: exact.Fraction(k+1, unit)})
	}
	if c.work.Err != api.OK {
		return nil, c.work.Err
	}
	return cells, api.OK
}

func rootErrors(p api.Poly, i api.Interval) api.Errno {
	if e := Valid(p); e != api.OK {
		return e
	}
	if !interval.Valid(i) {
		return api.ErrInvalid
	}
	if len(p.Coeffs) == 0 {
		return api.ErrEmpty
	}
	return api.OK
}

// chain is the Sturm chain of a polynomial, with integer coefficients.
type chain struct {
	polys [][]api.Ratio
	work  exact.Work
}

// newChain returns the Sturm chain of the polynomial with the same roots, each of them simple: at a multiple root
// the chain of the polynomial itself would count nothing.
func newChain(p api.Poly, i api.Interval) (*chain, api.Errno) {
	if e := rootErrors(p, i); e != api.OK {
		return nil, e
	}
	c := &chain{}
	simple := primitive(p.Coeffs, &c.work)
	c.build(simple)
	if last := c.polys[len(c.polys)-1]; len(last) > 1 {
		quotient, _ := divide(simple, last, &c.work)
		c.build(primitive(quotient, &c.work))
	}
	if c.work.Err != api.OK {
		return nil, c.work.Err
	}
	return c, api.OK
}

func (c *chain) build(p []api.Ratio) {
	c.polys = [][]api.Ratio{p}
	next := primitive(derivative(p, &c.work), &c.work)
	for len(next) > 0 && c.work.Err == api.OK {
		last := c.polys[len(c.polys)-1]
		c.polys = append(c.polys, next)
		rest := pseudoRemainder(last, next, &c.work)
		for i := range rest {
			rest[i] = exact.Neg(rest[i])
		}
		next = primitive(rest, &c.work)
	}
}

// pseudoRemainder returns the remainder of p by q times a positive number, so that it stays with integers.
func pseudoRemainder(p, q []api.Ratio, w *exact.Work) []api.Ratio {
	rest := add(p, nil, w)
	head := q[len(q)-1]
	for len(rest) >= len(q) && w.Err == api.OK {
		lead := rest[len(rest)-1]
		if exact.Sign(head) < 0 {
			lead = exact.Neg(lead)
		}
		shift := len(rest) - len(q)
		for i := range rest {
			rest[i] = w.Mul(rest[i], exact.Abs(head))
			if i >= shift {
				rest[i] = w.Sub(rest[i], w.Mul(lead, q[i-shift]))
			}
		}
		rest = trim(rest)
	}
	return rest
}

// primitive returns the multiple by a positive number with integer coefficients without a common factor.
func primitive(l []api.Ratio, w *exact.Work) []api.Ratio {
	l = trim(l)
	common, factor := integer.Of(0), exact.One()
	for _, c := range l {
		// The factor is the least common multiple of the denominators so far.
		factor = w.Mul(factor, api.Ratio{Num: w.Mul(factor, c).Den, Den: integer.Of(1)})
	}
	result := make([]api.Ratio, len(l))
	for i, c := range l {
		result[i] = w.Mul(c, factor)
		common, _ = integer.Gcd(common, result[i].Num)
	}
	for i := range result {
		result[i] = w.Div(result[i], api.Ratio{Num: common, Den: integer.Of(1)})
	}
	return result
}

// changes returns the number of sign changes of the chain at x.
func (c *chain) changes(x api.Ratio) int {
	count, last := 0, 0
	for _, p := range c.polys {
		sign := exact.Sign(eval(p, x, &c.work))
		if sign != 0 && sign == -last {
			count++
		}
		if sign != 0 {
			last = sign
		}
	}
	return count
}

// lastBefore returns the greatest k for which k/unit is less than a root, whose number counts from Low on.
func (c *chain) lastBefore(root, first, low, high, unit int) int {
	for high-low > 1 && c.work.Err == api.OK {
		middle := low + (high-low)/2
		if first-c.changes(exact.Fraction(middle, unit)) < root {
			low = middle
		} else {
			high = middle
		}
	}
	return low
}
