package envelope

import (
	"testing"

	"betatron/api"
	"betatron/exact"
	"betatron/interval"
	"betatron/ratio"
	"betatron/sample"
	"betatron/samplebeam"
	"betatron/stability"
	"betatron/transfer"
)

const parts = "quad qf strength 1/2 aperture 1 ; quad qd strength - 1/2 aperture 3 ; drift d length 1 ; "

func TestExamples(t *testing.T) {
	b := samplebeam.Line(parts, "qf d qd d")
	l, e := Ellipses(b, 1)
	if sample.Text(l[0].Gamma, l[0].Alpha, l[0].Beta) != "1/4 -5/8 5/2" || e != api.OK || !Check(b, 1, l) {
		t.Errorf("P16.1: Ellipses: %d", e)
	}
	if sample.Text(l[0].Beta, l[1].Beta, l[2].Beta, l[3].Beta, l[4].Beta) != "5/2 5/2 3/2 3/2 5/2" {
		t.Error("P16.1: Ellipses")
	}
	squares, _ := BetaSquared(b, 1)
	if sample.Text(squares[0]) != "80/3" {
		t.Errorf("P16.1: BetaSquared: %s", sample.Text(squares...))
	}
	if a, e := Acceptance(b, 1); sample.Text(a) != "3/80" || e != api.OK {
		t.Errorf("P16.1: Acceptance: %s %d", sample.Text(a), e)
	}
	if i, e := Tightest(b, 1); i != 0 || e != api.OK {
		t.Errorf("P16.1: Tightest: %d %d", i, e)
	}
	beta, e := Beta(b, 1, 2)
	if sample.Text(beta[0].Low, beta[0].High) != "129/25 517/100" || e != api.OK || len(beta) != 5 {
		t.Errorf("P16.1: Beta: %s %d", sample.Text(beta[0].Low, beta[0].High), e)
	}
	for action, want := range map[string]bool{"0": true, "19/100": true, "20/103": false, "1/5": false} {
		if fits, e := Fits(b, 1, sample.Ratio(action)); fits != want || e != api.OK {
			t.Errorf("P16.1: Fits: %s %v %d", action, fits, e)
		}
	}
}

func TestConsequences(t *testing.T) {
	b := samplebeam.Line("quad q length 1/3 strength 2 aperture 1 ; quad r length 1/2 strength - 2 ; drift d length 1/2 aperture 1/2 ;", "q d r d")
	for plane := 1; plane <= 2; plane++ {
		l, e := Ellipses(b, plane)
		if e != api.OK || !Check(b, plane, l) {
			t.Fatalf("P16.2: plane %d: %d", plane, e)
		}
		var w exact.Work
		for i := range b.Places {
			m, _ := transfer.OneTurn(b, plane, i)
			own, _ := stability.Invariant(m)
			if !same(own, l[i]) {
				t.Fatalf("P16.1: the ellipse at %d", i)
			}
		}
		double := []api.Ellipse{}
		for _, v := range l {
			two := exact.Whole(2)
			double = append(double, api.Ellipse{Gamma: w.Mul(two, v.Gamma), Alpha: w.Mul(two, v.Alpha), Beta: w.Mul(two, v.Beta)})
		}
		if !Check(b, plane, double) || Check(b, plane, double[1:]) || Check(b, 3, l) || Check(b, plane, nil) {
			t.Error("P16.1: Check")
		}
		double[2].Beta = exact.One()
		if Check(b, plane, double) {
			t.Error("P16.1: Check of a wrong ellipse")
		}
		acceptance, _ := Acceptance(b, plane)
		root, _ := interval.Sqrt(api.Interval{Low: acceptance, High: acceptance}, 6)
		below, _ := Fits(b, plane, root.Low)
		above, _ := Fits(b, plane, root.High)
		if !below || above && ratio.Cmp(w.Mul(root.High, root.High), acceptance) > 0 {
			t.Error("P16.2: an action fits exactly up to the acceptance")
		}
	}
	// Four quarter turns are the identity: any ellipse is carried around.
	quarter := samplebeam.Line("quad q strength 1 ; drift d length 1 ;", "q d q d q d q d q d q d")
	some := api.Ellipse{Gamma: exact.One(), Alpha: exact.Zero(), Beta: exact.Whole(3)}
	l := []api.Ellipse{some}
	var w exact.Work
	for i, p := range quarter.Places {
		next, _ := carried(p, 1, l[i], &w)
		l = append(l, next)
	}
	if !Check(quarter, 1, l) {
		t.Error("P16.2: an ellipse around the identity")
	}
	if _, e := Ellipses(quarter, 1); e != api.ErrUnstable {
		t.Errorf("P16.1: Ellipses: %d", e)
	}
}

func TestErrors(t *testing.T) {
	b, free := samplebeam.Line(parts, "qf d qd d"), samplebeam.Cell()
	if _, e := Beta(b, 1, 21); e != api.ErrRange {
		t.Errorf("P16.1: Beta: %d", e)
	}
	if _, e := Beta(samplebeam.Line(parts, "d"), 1, 21); e != api.ErrUnstable {
		t.Errorf("P16.1: Beta: %d", e)
	}
	for action, want := range map[string]api.Errno{"x": api.ErrInvalid, "-1": api.ErrRange} {
		if _, e := Fits(b, 1, sample.Ratio(action)); e != want {
			t.Errorf("P16.1: Fits: %d", e)
		}
	}
	if _, e := Tightest(free, 1); e != api.ErrNone {
		t.Errorf("P16.1: Tightest: %d", e)
	}
	if _, e := Acceptance(free, 2); e != api.ErrNone {
		t.Errorf("P16.1: Acceptance: %d", e)
	}
	if _, e := Ellipses(free, 0); e != api.ErrRange {
		t.Errorf("P16.1: Ellipses: %d", e)
	}
	if _, e := BetaSquared(api.Beamline{}, 0); e != api.ErrEmpty {
		t.Errorf("P16.1: BetaSquared: %d", e)
	}
}
