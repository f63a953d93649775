package matching

import (
	"betatron/api"
	"betatron/clone"
	"betatron/exact"
	"betatron/interval"
	"betatron/ratio"
)

// signOf returns the sign that all ratios have, or 0.
func signOf(l []api.Ratio) int {
	sign := exact.Sign(l[0])
	for _, r := range l {
		if exact.Sign(r) != sign {
			return 0
		}
	}
	return sign
}

// sides has the signs that Bernstein coefficients have: all of them, and those on each side of the box.
type sides struct{ all, left, right, lower, upper int }

func sidesOf(b [][]api.Ratio) sides {
	var all, lower, upper []api.Ratio
	for _, row := range b {
		all = append(all, row...)
		lower, upper = append(lower, row[0]), append(upper, row[len(row)-1])
	}
	return sides{signOf(all), signOf(b[0]), signOf(b[len(b)-1]), signOf(lower), signOf(upper)}
}

func (s sides) crossesInX() bool { return s.left*s.right < 0 }

func (s sides) crossesInY() bool { return s.lower*s.upper < 0 }

// verdict returns the verdict for polynomials and a box without errors.
func verdict(c, d [][]api.Ratio, x, y api.Interval, w *exact.Work) int {
	s, t := sidesOf(bernstein(c, x, y, w)), sidesOf(bernstein(d, x, y, w))
	switch {
	case s.all != 0 || t.all != 0:
		return api.BoxNone
	case s.crossesInX() && t.crossesInY() || t.crossesInX() && s.crossesInY():
		return api.BoxOne
	}
	return api.BoxOpen
}

func problemError(c, d [][]api.Ratio, x, y api.Interval) api.Errno {
	if !isPolynomial(c) || !isPolynomial(d) || !interval.Valid(x) || !interval.Valid(y) {
		return api.ErrInvalid
	}
	return api.OK
}

// Verdict returns the verdict for two polynomials and a box.
func Verdict(c, d [][]api.Ratio, x, y api.Interval) (int, api.Errno) {
	if e := problemError(c, d, x, y); e != api.OK {
		return 0, e
	}
	var w exact.Work
	v := verdict(c, d, x, y, &w)
	if w.Err != api.OK {
		return 0, w.Err
	}
	return v, api.OK
}

// bisected returns both halves of a box.
func bisected(x, y api.Interval, w *exact.Work) [2]api.Box {
	half := func(i api.Interval) (api.Interval, api.Interval) {
		middle := w.Div(w.Add(i.Low, i.High), exact.Whole(2))
		return api.Interval{Low: i.Low, High: middle}, api.Interval{Low: middle, High: i.High}
	}
	if ratio.Cmp(w.Sub(x.High, x.Low), w.Sub(y.High, y.Low)) >= 0 {
		lower, upper := half(x)
		return [2]api.Box{{X: lower, Y: y}, {X: upper, Y: y}}
	}
	lower, upper := half(y)
	return [2]api.Box{{X: x, Y: lower}, {X: x, Y: upper}}
}

// Search returns the boxes of a bisection up to a depth with their verdicts, in order.
func Search(c, d [][]api.Ratio, x, y api.Interval, depth int) ([]api.Box, api.Errno) {
	if e := problemError(c, d, x, y); e != api.OK {
		return nil, e
	}
	if depth < 0 || depth > mostDepth {
		return nil, api.ErrRange
	}
	var w exact.Work
	l := search(c, d, x, y, depth, &w)
	if w.Err != api.OK {
		return nil, w.Err
	}
	return l, api.OK
}

func search(c, d [][]api.Ratio, x, y api.Interval, depth int, w *exact.Work) []api.Box {
	v := verdict(c, d, x, y, w)
	if w.Err != api.OK {
		return nil
	}
	if v != api.BoxOpen || depth == 0 {
		return []api.Box{{X: clone.Interval(x), Y: clone.Interval(y), Verdict: v}}
	}
	var l []api.Box
	for _, half := range bisected(x, y, w) {
		l = append(l, search(c, d, half.X, half.Y, depth-1, w)...)
	}
	return l
}

func sameInterval(i, j api.Interval) bool {
	return exact.Same(i.Low, j.Low) && exact.Same(i.High, j.High)
}

// Check reports whether boxes and verdicts are right and cover the domain.
func Check(c, d [][]api.Ratio, x, y api.Interval, l []api.Box) bool {
	if problemError(c, d, x, y) != api.OK || len(l) == 0 || len(l) > mostBoxes {
		return false
	}
	var w exact.Work
	if exact.Same(x.Low, x.High) && exact.Same(y.Low, y.High) {
		// Both halves of a point are this point.
		v := verdict(c, d, x, y, &w)
		for _, box := range l {
			if !sameInterval(box.X, x) || !sameInterval(box.Y, y) || box.Verdict != v {
				return false
			}
		}
		return w.Err == api.OK
	}
	rest, ok := covers(c, d, x, y, mostDepth, l, &w)
	return ok && len(rest) == 0 && w.Err == api.OK
}

// covers takes the boxes that cover a domain from the beginning of a list, and returns what remains.
func covers(c, d [][]api.Ratio, x, y api.Interval, depth int, l []api.Box, w *exact.Work) ([]api.Box, bool) {
	if len(l) == 0 || w.Err != api.OK {
		return nil, false
	}
	if sameInterval(l[0].X, x) && sameInterval(l[0].Y, y) {
		return l[1:], l[0].Verdict == verdict(c, d, x, y, w)
	}
	if depth == 0 {
		return nil, false
	}
	for _, half := range bisected(x, y, w) {
		var ok bool
		if l, ok = covers(c, d, half.X, half.Y, depth-1, l, w); !ok {
			return nil, false
		}
	}
	return l, true
}

// Remaining returns the least box that contains all that are not BoxNone, with BoxOne if one of them is.
func Remaining(l []api.Box) (api.Box, api.Errno) {
	if len(l) > mostBoxes {
		return api.Box{}, api.ErrTooLarge
	}
	for _, box := range l {
		if !interval.Valid(box.X) || !interval.Valid(box.Y) {
			return api.Box{}, api.ErrInvalid
		}
		if box.Verdict < api.BoxNone || box.Verdict > api.BoxOpen {
			return api.Box{}, api.ErrRange
		}
	}
	var result api.Box
	for _, box := range l {
		switch {
		case box.Verdict == api.BoxNone:
		case result.Verdict == 0:
			result = api.Box{X: clone.Interval(box.X), Y: clone.Interval(box.Y), Verdict: box.Verdict}
		default:
			result.X, _ = interval.Hull(result.X, box.X)
			result.Y, _ = interval.Hull(result.Y, box.Y)
			result.Verdict = min(result.Verdict, box.Verdict)
		}
	}
	if result.Verdict == 0 {
		return api.Box{}, api.ErrNone
	}
	return result, api.OK
}
