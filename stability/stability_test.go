package stability

import (
	"testing"

	"betatron/api"
	"betatron/exact"
	"betatron/matrix"
	"betatron/ratio"
	"betatron/sample"
	"betatron/samplebeam"
	"betatron/transfer"
)

var cell = "1/4 5/2 0 / -1/4 3/2 0 / 0 0 1"

func text(e api.Ellipse) string { return sample.Text(e.Gamma, e.Alpha, e.Beta) }

func TestExamples(t *testing.T) {
	m := sample.Matrix(cell)
	e, err := Invariant(m)
	if text(e) != "1/4 -5/8 5/2" || err != api.OK || !CheckInvariant(m, e) {
		t.Errorf("P13.1: Invariant: %s %d", text(e), err)
	}
	if r, err := Reach(m, exact.One()); sample.Text(r) != "32/3" || err != api.OK {
		t.Errorf("P13.1: Reach: %s %d", sample.Text(r), err)
	}
	for s, want := range map[string]int{cell: 1, "1 3 0 / 0 1 0 / 0 0 1": 2, "-1 0 0 / 0 -1 0 / 0 0 1": 2, "2 0 0 / 0 1/2 0 / 0 0 1": 3, "-2 0 0 / 0 -1/2 0 / 0 0 1": 3} {
		if kind, err := Kind(sample.Matrix(s)); kind != want || err != api.OK {
			t.Errorf("P13.1: Kind of %s: %d", s, kind)
		}
	}
	for s, want := range map[string]api.Errno{"2 0 0 / 0 1/2 0 / 0 0 1": 0, cell: api.ErrState, "1 3 0 / 0 1 0 / 0 0 1": api.ErrState, "10/9 0 0 / 0 9/10 0 / 0 0 1": api.ErrTooLarge, "1 2 / 3 4": api.ErrInvalid} {
		n, err := Growth(sample.Matrix(s))
		if err != want || err == api.OK && n != 10 {
			t.Errorf("P13.1: Growth of %s: %d %d", s, n, err)
		}
	}
	if a, err := Action(e, sample.Ratio("2"), sample.Ratio("1")); sample.Text(a) != "1" || err != api.OK {
		t.Errorf("P13.1: Action: %s %d", sample.Text(a), err)
	}
}

func TestConsequences(t *testing.T) {
	b := samplebeam.Line("quad q length 1/3 strength 2 ; quad r length 1/2 strength - 2 ; drift d length 1/2 ;", "q d r d")
	for plane := 1; plane <= 2; plane++ {
		m, _ := transfer.OneTurn(b, plane, 0)
		kind, _ := Kind(m)
		back, _ := transfer.Back(m)
		e, err := Invariant(m)
		turned, _ := Invariant(back)
		if kind != api.StableMotion || err != api.OK || !CheckInvariant(m, e) || text(turned) != text(e) {
			t.Fatalf("P13.2: plane %d: %d %d", plane, kind, err)
		}
		v := sample.Ratios("1 -1/2 0")
		first, _ := Action(e, v[0], v[1])
		reach, _ := Reach(m, first)
		for range 4 {
			var w exact.Work
			v, _ = transfer.Apply(m, v)
			a, _ := Action(e, v[0], v[1])
			if !exact.Same(a, first) || ratio.Cmp(w.Mul(v[0], v[0]), reach) > 0 {
				t.Fatal("P13.2: the action of a particle")
			}
		}
		power, _ := matrix.Power(m, 3)
		if kind, _ := Kind(power); kind == api.UnstableMotion {
			t.Error("P13.2: a power")
		}
		e.Beta = sample.Ratio("100")
		if CheckInvariant(m, e) {
			t.Error("P13.1: CheckInvariant of another ellipse")
		}
	}
	identity := sample.Matrix("1 0 0 / 0 1 0 / 0 0 1")
	for s, want := range map[string]bool{"1 0 1": true, "1 1 1": false, "-1 0 -1": false, "1 x 1": false} {
		l := sample.Ratios(s)
		if CheckInvariant(identity, api.Ellipse{Gamma: l[0], Alpha: l[1], Beta: l[2]}) != want {
			t.Errorf("P13.1: CheckInvariant: %s", s)
		}
	}
}

func TestErrors(t *testing.T) {
	m := sample.Matrix("2 0 0 / 0 1/2 0 / 0 0 1")
	if _, e := Invariant(m); e != api.ErrUnstable {
		t.Errorf("P13.1: Invariant: %d", e)
	}
	for i, want := range []api.Errno{api.ErrInvalid, api.ErrUnstable, api.ErrRange} {
		if _, e := Reach([]api.Matrix{m, m, sample.Matrix(cell)}[i], []api.Ratio{{}, sample.Ratio("-1"), sample.Ratio("-1")}[i]); e != want {
			t.Errorf("P13.1: Reach, row %d: %d", i, e)
		}
	}
	if _, e := Kind(sample.Matrix("2 0 0 / 0 1 0 / 0 0 1")); e != api.ErrInvalid {
		t.Errorf("P13.1: Kind: %d", e)
	}
	if _, e := Action(api.Ellipse{}, exact.One(), exact.One()); e != api.ErrInvalid {
		t.Errorf("P13.1: Action: %d", e)
	}
}

func TestCulprit(t *testing.T) {
	strong := "quad q strength 1/2 ; quad r strength - 1/2 ; drift d length 1 ; quad s strength 9 ;"
	for i, c := range []struct {
		line string
		at   int
		e    api.Errno
	}{
		{"q d r d", 0, api.ErrNone}, {"q d s r d", 2, 0}, {"d", 0, api.ErrNotFound}, {"d d", 0, api.ErrNotFound}, {"s s d", 0, api.ErrNotFound}, {"s q d", 0, 0},
	} {
		if at, e := Culprit(samplebeam.Line(strong, c.line), api.Horizontal); at != c.at || e != c.e {
			t.Errorf("P13.1: Culprit, row %d: %d %d", i, at, e)
		}
	}
	if _, e := Culprit(samplebeam.Cell(), 3); e != api.ErrRange {
		t.Errorf("P13.1: Culprit: %d", e)
	}
}
