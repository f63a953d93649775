package matching

import (
	"slices"
	"strings"
	"testing"

	"betatron/api"
	"betatron/exact"
	"betatron/interval"
	"betatron/ratio"
	"betatron/sample"
	"betatron/samplebeam"
	"betatron/transfer"
)

// poly returns the polynomial with some rows.
func poly(rows ...string) [][]api.Ratio {
	var c [][]api.Ratio
	for _, row := range rows {
		c = append(c, sample.Ratios(row))
	}
	return c
}

func text(c [][]api.Ratio) string {
	var rows []string
	for _, row := range c {
		rows = append(rows, sample.Text(row...))
	}
	return strings.Join(rows, " / ")
}

var c, d = poly("-1/3", "1"), poly("-1/2 1", "0 1")

func TestExamples(t *testing.T) {
	unit := sample.Interval("0", "1")
	if v, e := Verdict(c, d, unit, unit); v != api.BoxOne || e != api.OK {
		t.Errorf("P18.1: Verdict: %d %d", v, e)
	}
	if v, _ := Verdict(d, c, unit, unit); v != api.BoxOne {
		t.Errorf("P18.1: Verdict: %d", v)
	}
	if v, _ := Verdict(c, d, unit, sample.Interval("1", "2")); v != api.BoxNone {
		t.Errorf("P18.1: Verdict: %d", v)
	}
	b := samplebeam.Line("drift d length 1 ; quad q strength 5 ; quad r strength 7 ;", "d q r")
	for i, g := range []struct {
		row, col int
		want     string
	}{{1, 0, "0 / -1"}, {1, 1, "1 / -1"}, {0, 1, "1 / 0"}} {
		p, e := Goal(b, "q", "r", api.Goal{Plane: 1, From: 0, To: 2, Row: g.row, Col: g.col, Value: exact.Zero()})
		if text(p) != g.want || e != api.OK {
			t.Errorf("P18.1: Goal, row %d: %s %d", i, text(p), e)
		}
	}
	if l, e := Bernstein(poly("1 2", "3 4"), unit, sample.Interval("0", "2")); text(l) != "1 5 / 4 16" || e != api.OK {
		t.Errorf("P18.1: Bernstein: %s %d", text(l), e)
	}
}

// P18.2: the polynomial of a goal has the value of the cell at any strengths.
func TestGoal(t *testing.T) {
	b := samplebeam.Line("quad q length 1/3 strength 2 ; quad r strength - 1 ; drift d length 1/2 ; bend b length 3 strength 1/2 radius 5 ; quad o strength 1/4 ;", "q d r b q o d r d")
	for plane := 1; plane <= 2; plane++ {
		for cell := range 4 {
			g := api.Goal{Plane: plane, From: 1, To: 8, Row: cell / 2, Col: cell % 2, Value: sample.Ratio("1/7")}
			p, e := Goal(b, "r", "q", g)
			if e != api.OK || len(p) != 3 || len(p[0]) != 2 {
				t.Fatalf("P18.1: Goal: %d", e)
			}
			x, y := sample.Ratio("-3/5"), sample.Ratio("7/2")
			value, _ := Eval(p, x, y)
			other := samplebeam.Line("quad q length 1/3 strength 7/2 ; quad r strength - 3/5 ; drift d length 1/2 ; bend b length 3 strength 1/2 radius 5 ; quad o strength 1/4 ;", "q d r b q o d r d")
			m, _ := transfer.Segment(other, plane, 1, 8)
			var w exact.Work
			if !exact.Same(value, w.Sub(m.Cells[g.Row*3+g.Col], g.Value)) {
				t.Errorf("P18.2: cell %d of plane %d: %s", cell, plane, sample.Text(value))
			}
		}
	}
}

func TestSearch(t *testing.T) {
	// A circle and a line meet at 3/5, 4/5.
	circle, line := poly("-1 0 1", "0 0 0", "1 0 0"), poly("0 -3/4", "1 0")
	x, y := sample.Interval("0", "2"), sample.Interval("0", "2")
	solution := sample.Ratios("3/5 4/5")
	for depth := 0; depth <= 6; depth++ {
		l, e := Search(circle, line, x, y, depth)
		if e != api.OK || !Check(circle, line, x, y, l) {
			t.Fatalf("P18.2: depth %d: %d", depth, e)
		}
		for _, box := range l {
			if box.Verdict == api.BoxNone && interval.Contains(box.X, solution[0]) && interval.Contains(box.Y, solution[1]) {
				t.Fatal("P18.2: a solution in a box without one")
			}
		}
		rest, e := Remaining(l)
		if e != api.OK || !interval.Contains(rest.X, solution[0]) || !interval.Contains(rest.Y, solution[1]) {
			t.Fatalf("P18.2: Remaining: %d", e)
		}
		if len(l) > 1 {
			wrong := slices.Clone(l)
			wrong[1].Verdict = wrong[1].Verdict%3 + 1
			turned := slices.Clone(l)
			slices.Reverse(turned)
			if Check(circle, line, x, y, wrong) || Check(circle, line, x, y, l[1:]) || Check(circle, line, x, y, append(slices.Clone(l), l[0])) || Check(circle, line, x, y, turned) {
				t.Fatal("P18.1: Check")
			}
		}
	}
	point := sample.Interval("1", "1")
	one := api.Box{X: point, Y: point, Verdict: api.BoxNone}
	if !Check(c, d, point, point, []api.Box{one, one, one}) || Check(c, d, point, point, nil) || Check(c, d, point, point, slices.Repeat([]api.Box{one}, 1025)) {
		t.Error("P18.1: Check of a point")
	}
}

func TestBernsteinBounds(t *testing.T) {
	p := poly("1 -2 1/2", "0 3 -1", "-1 1/3 2")
	x, y := sample.Interval("-1", "2"), sample.Interval("1/2", "3")
	l, _ := Bernstein(p, x, y)
	var all []api.Ratio
	for _, row := range l {
		all = append(all, row...)
	}
	low, high := slices.MinFunc(all, ratio.Cmp), slices.MaxFunc(all, ratio.Cmp)
	for i := range 5 {
		for k := range 5 {
			var w exact.Work
			u := w.Add(x.Low, w.Mul(w.Sub(x.High, x.Low), exact.Fraction(i, 4)))
			v := w.Add(y.Low, w.Mul(w.Sub(y.High, y.Low), exact.Fraction(k, 4)))
			if value, _ := Eval(p, u, v); ratio.Cmp(value, low) < 0 || ratio.Cmp(value, high) > 0 {
				t.Fatal("P18.2: a value beyond the coefficients")
			}
		}
	}
	corner, _ := Eval(p, x.High, y.Low)
	if !exact.Same(corner, l[2][0]) {
		t.Error("P18.1: the corner")
	}
}

func TestErrors(t *testing.T) {
	unit := sample.Interval("0", "1")
	b := samplebeam.Line("drift d length 1 ; quad q strength 5 ; quad r strength 7 ;", "d 7 * q r")
	zero := exact.Zero()
	for i, k := range []struct {
		first, second string
		g             api.Goal
		want          api.Errno
	}{
		{"d", "d", api.Goal{}, api.ErrNotFound}, {"q", "q", api.Goal{}, api.ErrExists}, {"q", "r", api.Goal{}, api.ErrRange},
		{"q", "r", api.Goal{Plane: 1, To: 10}, api.ErrRange}, {"q", "r", api.Goal{Plane: 1, From: 2, To: 1}, api.ErrRange}, {"q", "r", api.Goal{Plane: 1, To: 9, Row: 2}, api.ErrRange},
		{"q", "r", api.Goal{Plane: 1, To: 9}, api.ErrInvalid}, {"q", "r", api.Goal{Plane: 1, To: 9, Value: zero}, api.ErrTooLarge}, {"q", "r", api.Goal{Plane: 2, To: 7, Value: zero}, 0},
	} {
		if _, e := Goal(b, k.first, k.second, k.g); e != k.want {
			t.Errorf("P18.1: Goal, row %d: %d", i, e)
		}
	}
	if _, e := Goal(api.Beamline{}, "", "", api.Goal{}); e != api.ErrEmpty {
		t.Errorf("P18.1: Goal: %d", e)
	}
	for i, bad := range [][][]api.Ratio{nil, {{}}, poly("1 2", "1"), poly("x"), slices.Repeat(poly("1"), 8)} {
		if _, e := Eval(bad, zero, zero); e != api.ErrInvalid {
			t.Errorf("P18.1: Eval, row %d: %d", i, e)
		}
		if _, e := Search(c, bad, unit, unit, 11); e != api.ErrInvalid {
			t.Errorf("P18.1: Search, row %d: %d", i, e)
		}
	}
	if _, e := Search(c, d, unit, unit, 11); e != api.ErrRange {
		t.Errorf("P18.1: Search: %d", e)
	}
	if _, e := Verdict(c, d, unit, sample.Interval("1", "0")); e != api.ErrInvalid {
		t.Errorf("P18.1: Verdict: %d", e)
	}
	box := api.Box{X: unit, Y: unit, Verdict: 4}
	for i, k := range []struct {
		l    []api.Box
		want api.Errno
	}{{make([]api.Box, 1025), api.ErrTooLarge}, {make([]api.Box, 1), api.ErrInvalid}, {[]api.Box{box}, api.ErrRange}, {nil, api.ErrNone}} {
		if _, e := Remaining(k.l); e != k.want {
			t.Errorf("P18.1: Remaining, row %d: %d", i, e)
		}
	}
}
