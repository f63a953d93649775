package tracking

import (
	"betatron/api"
	"betatron/element"
	"betatron/exact"
	"betatron/integer"
	"betatron/ratio"
)

// mostFast is a bound for the sizes of factors with which sums of three products with coordinates fit an int.
const mostFast = 1 << 20

// stage is what a place does to a particle.
type stage struct {
	index   int
	element api.Element
	maps    [2][2]row // horizontal and vertical: the rows of position and angle
	limit   api.Ratio // the aperture in units of 10^-9 metre; 0 if there is none
	steers  int       // the plane of a corrector or kicker, or 0
}

// row is a row of a map. If it is fast, it is a, b and c divided by d.
type row struct {
	cells      []api.Ratio
	fast       bool
	a, b, c, d int
}

func newStage(e api.Element, index int) (*stage, api.Errno) {
	var w exact.Work
	s := &stage{index: index, element: e, limit: w.Mul(e.Aperture, exact.Whole(unit))}
	if e.Kind == api.Corrector || e.Kind == api.Kicker {
		s.steers = e.Plane
	}
	for i := range s.maps {
		m, err := element.Map(e, api.Horizontal+i)
		if err != api.OK {
			return nil, err
		}
		s.maps[i] = [2]row{newRow(m.Cells[:3]), newRow(m.Cells[3:6])}
	}
	return s, w.Err
}

// newRow looks for small integers with which a row can be computed fast.
func newRow(cells []api.Ratio) row {
	r := row{cells: cells}
	var w exact.Work
	den := exact.One()
	for _, c := range cells {
		den = w.Mul(den, api.Ratio{Num: w.Mul(den, c).Den, Den: integer.Of(1)})
	}
	var numbers []int
	for _, v := range []api.Ratio{w.Mul(cells[0], den), w.Mul(cells[1], den), w.Mul(cells[2], den), den} {
		n, e := integer.Small(v.Num)
		if e != api.OK || !within(n, mostFast) {
			return r
		}
		numbers = append(numbers, n)
	}
	r.fast = w.Err == api.OK
	r.a, r.b, r.c, r.d = numbers[0], numbers[1], numbers[2], numbers[3]
	return r
}

// rounded returns a/b, rounded to the nearest integer, halves upward; b is positive.
func rounded(a, b int) int {
	n, d := 2*a+b, 2*b
	q := n / d
	if n%d < 0 {
		q--
	}
	return q
}

// roundedRatio rounds a ratio likewise; a value that is far too great stays so.
func roundedRatio(r api.Ratio, w *exact.Work) int {
	floor := w.Floor(w.Add(r, exact.Fraction(1, 2)))
	n, e := integer.Small(floor.Num)
	if e != api.OK {
		return exact.Sign(floor) * 4 * most
	}
	return n
}

func (r *row) times(position, angle, deviation int, w *exact.Work) int {
	if r.fast {
		return rounded(r.a*position+r.b*angle+r.c*deviation, r.d)
	}
	return roundedRatio(w.Dot(r.cells, []api.Ratio{exact.Whole(position), exact.Whole(angle), exact.Whole(deviation)}), w)
}

// pass returns a particle behind the place.
func (s *stage) pass(q api.Particle, angle int) (api.Particle, api.Errno) {
	if q.Lost >= 0 {
		return q, api.OK
	}
	var w exact.Work
	next := q
	if s.element.Kind == api.Sextupole {
		s.bend(q, &next, &w)
	} else {
		deviation := q.Deviation * perDeviation
		h, v := &s.maps[0], &s.maps[1]
		next.X, next.XP = h[0].times(q.X, q.XP, deviation, &w), h[1].times(q.X, q.XP, deviation, &w)
		next.Y, next.YP = v[0].times(q.Y, q.YP, deviation, &w), v[1].times(q.Y, q.YP, deviation, &w)
	}
	switch s.steers {
	case api.Horizontal:
		next.XP += angle
	case api.Vertical:
		next.YP += angle
	}
	if w.Err != api.OK {
		return api.Particle{}, w.Err
	}
	if s.loses(next) {
		q.Lost = s.index
		return q, api.OK
	}
	return next, api.OK
}

// bend gives the kicks of a sextupole.
func (s *stage) bend(q api.Particle, next *api.Particle, w *exact.Work) {
	if exact.IsZero(s.element.Strength) {
		return
	}
	x, y := exact.Whole(q.X), exact.Whole(q.Y)
	squares := w.Sub(w.Mul(x, x), w.Mul(y, y))
	next.XP = roundedRatio(w.Sub(exact.Whole(q.XP), w.Mul(s.element.Strength, w.Div(squares, exact.Whole(2*unit)))), w)
	next.YP = roundedRatio(w.Add(exact.Whole(q.YP), w.Mul(s.element.Strength, w.Div(w.Mul(x, y), exact.Whole(unit)))), w)
}

// loses reports whether a particle with these coordinates is lost.
func (s *stage) loses(q api.Particle) bool {
	if !within(q.X, most) || !within(q.XP, most) || !within(q.Y, most) || !within(q.YP, most) {
		return true
	}
	if exact.IsZero(s.limit) {
		return false
	}
	size := max(q.X, -q.X, q.Y, -q.Y)
	return ratio.Cmp(exact.Whole(size), s.limit) > 0
}
