package chromatic

import (
	"testing"

	"betatron/api"
	"betatron/exact"
	"betatron/expand"
	"betatron/matrix"
	"betatron/sample"
	"betatron/samplebeam"
	"betatron/transfer"
)

func ring() api.Beamline {
	return samplebeam.Line("quad q length 1/3 strength 2 ; bend b length 3 strength 1/5 radius 5 ; drift d length 1/2 ; quad r strength - 1 ; sextupole s strength 2 ; sextupole u strength - 1/2 ; sextupole v strength 1 ;", "q s d b u r d v d q")
}

func TestExamples(t *testing.T) {
	b := samplebeam.Cell()
	for plane := 1; plane <= 2; plane++ {
		natural, e := Natural(b, plane)
		slope, _ := Slope(b, plane)
		if sample.Text(natural, slope) != "1/2 1/2" || e != api.OK {
			t.Errorf("P17.1: Natural: %s %d", sample.Text(natural), e)
		}
		if trend, e := Trend(b, plane); trend != -1 || e != api.OK {
			t.Errorf("P17.1: Trend: %d %d", trend, e)
		}
	}
	quad := api.Element{Name: "q", Kind: api.Quad, Length: sample.Ratio("2"), Strength: sample.Ratio("3"), Radius: exact.Zero(), Aperture: exact.Zero()}
	six := api.Element{Name: "s", Kind: api.Sextupole, Length: exact.Zero(), Strength: sample.Ratio("3"), Radius: exact.Zero(), Aperture: exact.Zero()}
	for i, c := range []struct {
		e     api.Element
		plane int
		want  string
	}{
		{quad, 1, "3 3 0 / 3 3 0 / 0 0 0"}, {quad, 2, "-3 -3 0 / -3 -3 0 / 0 0 0"}, {six, 1, "0 0 0 / -3/2 0 0 / 0 0 0"}, {six, 2, "0 0 0 / 3/2 0 0 / 0 0 0"},
		{b.Places[1].Element, 1, "0 0 0 / 0 0 0 / 0 0 0"},
	} {
		if m, e := Derivative(c.e, c.plane, sample.Ratio("1/2")); sample.MatrixText(m) != c.want || e != api.OK {
			t.Errorf("P17.1: Derivative, row %d: %s %d", i, sample.MatrixText(m), e)
		}
	}
}

// P17.2: the derivative of the trace, from differences: in a thin lattice it is a polynomial of a common factor.
func TestDerivativeOfTrace(t *testing.T) {
	line := func(f string) api.Beamline {
		var w exact.Work
		b := samplebeam.Cell()
		for i, p := range b.Places {
			b.Places[i].Element.Strength = w.Mul(p.Element.Strength, sample.Ratio(f))
		}
		return b
	}
	trace := func(f string) api.Ratio {
		m, _ := transfer.OneTurn(line(f), 1, 0)
		part := api.Matrix{Rows: 2, Cols: 2, Cells: []api.Ratio{m.Cells[0], m.Cells[1], m.Cells[3], m.Cells[4]}}
		r, _ := matrix.Trace(part)
		return r
	}
	// The trace is of the degree 2, so its derivative at 1 is the central difference.
	var w exact.Work
	slope, _ := Slope(line("1"), 1)
	if !exact.Same(slope, exact.Neg(w.Div(w.Sub(trace("2"), trace("0")), exact.Whole(2)))) {
		t.Errorf("P17.2: %s", sample.Text(slope))
	}
}

func TestCorrect(t *testing.T) {
	b := ring()
	for plane := 1; plane <= 2; plane++ {
		slope, _ := Slope(b, plane)
		sum, e := Natural(b, plane)
		var w exact.Work
		for family, strength := range map[string]string{"s": "2", "u": "-1/2", "v": "1"} {
			share, f := Share(b, plane, family)
			if e != api.OK || f != api.OK || exact.IsZero(share) {
				t.Fatalf("P17.1: Share: %d %d", e, f)
			}
			sum = w.Add(sum, w.Mul(share, sample.Ratio(strength)))
		}
		if !exact.Same(sum, slope) {
			t.Errorf("P17.2: slope %s and its parts %s", sample.Text(slope), sample.Text(sum))
		}
	}
	l, e := Correct(b, "s", "v", sample.Ratio("1/2"), sample.Ratio("-3"))
	if e != api.OK || len(l) != 2 {
		t.Fatalf("P17.1: Correct: %d", e)
	}
	b, _ = With(b, "s", l[0])
	b, e = With(b, "v", l[1])
	x, _ := Slope(b, 1)
	y, _ := Slope(b, 2)
	if sample.Text(x, y) != "1/2 -3" || e != api.OK || expand.Valid(b) != api.OK {
		t.Errorf("P17.2: corrected slopes %s", sample.Text(x, y))
	}
}

func TestErrors(t *testing.T) {
	b, one := ring(), exact.One()
	for i, c := range []struct {
		first, second string
		target        api.Ratio
		want          api.Errno
	}{
		{"x", "q", api.Ratio{}, api.ErrNotFound}, {"q", "x", one, api.ErrState}, {"s", "q", one, api.ErrState}, {"s", "s", api.Ratio{}, api.ErrConflict},
		{"s", "u", api.Ratio{}, api.ErrInvalid},
	} {
		if _, e := Correct(b, c.first, c.second, one, c.target); e != c.want {
			t.Errorf("P17.1: Correct, row %d: %d", i, e)
		}
	}
	flat := samplebeam.Line("quad q strength 1/2 ; quad r strength - 1/2 ; drift d length 1 ; sextupole s strength 2 ; sextupole u ;", "q s d r u d")
	if _, e := Correct(flat, "s", "u", one, one); e != api.ErrSingular {
		t.Errorf("P17.1: Correct without dispersion: %d", e)
	}
	if share, e := Share(flat, 1, "s"); sample.Text(share) != "0" || e != api.OK {
		t.Errorf("P17.2: Share without dispersion: %s %d", sample.Text(share), e)
	}
	drift := samplebeam.Line("drift d length 1 ; sextupole s ; quad q strength 9 ;", "d s")
	if _, e := Slope(drift, 1); e != api.ErrSingular {
		t.Errorf("P17.1: Slope: %d", e)
	}
	if _, e := Trend(samplebeam.Line("drift d length 1 ; quad q strength 9 ;", "d q"), 1); e != api.ErrUnstable {
		t.Errorf("P17.1: Trend: %d", e)
	}
	if _, e := Share(b, 0, "x"); e != api.ErrRange {
		t.Errorf("P17.1: Share: %d", e)
	}
	for family, want := range map[string]api.Errno{"x": api.ErrNotFound, "d": api.ErrState, "q": 0} {
		if _, e := With(b, family, one); e != want {
			t.Errorf("P17.1: With %s: %d", family, e)
		}
	}
	if _, e := With(b, "x", api.Ratio{}); e != api.ErrInvalid {
		t.Errorf("P17.1: With: %d", e)
	}
	if _, e := Derivative(b.Places[0].Element, 3, api.Ratio{}); e != api.ErrRange {
		t.Errorf("P17.1: Derivative: %d", e)
	}
	if _, e := Derivative(b.Places[0].Element, 1, api.Ratio{}); e != api.ErrInvalid {
		t.Errorf("P17.1: Derivative: %d", e)
	}
}
