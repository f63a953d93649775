package transfer

import (
	"testing"

	"betatron/api"
	"betatron/element"
	"betatron/exact"
	"betatron/expand"
	"betatron/matrix"
	"betatron/sample"
	"betatron/samplebeam"
)

func ring() api.Beamline {
	return samplebeam.Line("quad q length 1/3 strength 2 ; bend b length 3 strength 1/2 radius 5 ; drift d length 1/2 ; quad r strength - 1 ;", "q d b r d q")
}

func TestExamples(t *testing.T) {
	b := samplebeam.Cell()
	for _, c := range []struct {
		plane, from, to int
		want            string
	}{{1, 0, 4, "1/4 5/2 0 / -1/4 3/2 0 / 0 0 1"}, {2, 0, 4, "5/4 3/2 0 / -1/4 1/2 0 / 0 0 1"}, {1, 0, 2, "1/2 1 0 / -1/2 1 0 / 0 0 1"}, {1, 2, 2, "1 0 0 / 0 1 0 / 0 0 1"}} {
		if m, e := Segment(b, c.plane, c.from, c.to); sample.MatrixText(m) != c.want || e != api.OK {
			t.Errorf("P12.1: Segment: %s %d", sample.MatrixText(m), e)
		}
	}
	maps, e := Maps(b, 1)
	if len(maps) != 5 || e != api.OK || sample.MatrixText(maps[2]) != "1/2 1 0 / -1/2 1 0 / 0 0 1" {
		t.Errorf("P12.1: Maps: %d", e)
	}
}

func TestConsequences(t *testing.T) {
	b := ring()
	for plane := 1; plane <= 2; plane++ {
		whole, _ := Segment(b, plane, 0, len(b.Places))
		first, _ := OneTurn(b, plane, 0)
		trace, _ := matrix.Trace(first)
		for i := range b.Places {
			m, e := OneTurn(b, plane, i)
			head, _ := Segment(b, plane, 0, i)
			tail, _ := Segment(b, plane, i, len(b.Places))
			both, _ := matrix.Mul(tail, head)
			around, _ := matrix.Mul(head, tail)
			same, _ := matrix.Trace(m)
			if e != api.OK || !Symplectic(m) || !exact.Same(trace, same) || sample.MatrixText(both) != sample.MatrixText(whole) || sample.MatrixText(around) != sample.MatrixText(m) {
				t.Fatalf("P12.2: place %d", i)
			}
		}
		back, e := Back(whole)
		turned, _ := expand.Reverse(b)
		opposite, _ := Segment(turned, plane, 0, len(b.Places))
		j := sample.Matrix("1 0 0 / 0 -1 0 / 0 0 1")
		want, _ := matrix.Mul(j, opposite)
		want, _ = matrix.Mul(want, j)
		if e != api.OK || sample.MatrixText(back) != sample.MatrixText(want) {
			t.Errorf("P12.2: Back: %s", sample.MatrixText(back))
		}
		v := sample.Ratios("1/2 -3 2")
		l, _ := Trace(b, plane, v)
		end, _ := Apply(whole, v)
		again, _ := Apply(back, end)
		if len(l) != len(b.Places)+1 || sample.Text(l[len(l)-1]...) != sample.Text(end...) || sample.Text(again...) != sample.Text(v...) {
			t.Errorf("P12.2: Trace: %v", l)
		}
		step, _ := element.Map(b.Places[0].Element, plane)
		behind, _ := Apply(step, v)
		if sample.Text(l[1]...) != sample.Text(behind...) || sample.Text(l[0]...) != sample.Text(v...) {
			t.Error("P12.1: Trace")
		}
	}
}

func TestErrors(t *testing.T) {
	b, v := samplebeam.Cell(), sample.Ratios("1 0 0")
	for i, c := range []struct{ got, want api.Errno }{
		{code(Segment(b, 3, 0, 9)), api.ErrRange}, {code(Segment(b, 1, 2, 1)), api.ErrRange}, {code(Segment(b, 1, -1, 1)), api.ErrRange},
		{code(Segment(b, 1, 0, 5)), api.ErrRange}, {code(OneTurn(b, 1, 4)), api.ErrRange}, {code(OneTurn(api.Beamline{}, 1, 0)), api.ErrEmpty},
		{code(Back(sample.Matrix("2 0 0 / 0 1 0 / 0 0 1"))), api.ErrInvalid}, {code(Back(sample.Matrix("1 0 / 0 1"))), api.ErrInvalid},
	} {
		if c.got != c.want {
			t.Errorf("P12.1: row %d: %d", i, c.got)
		}
	}
	if _, e := Trace(b, 1, v[:2]); e != api.ErrInvalid {
		t.Errorf("P12.1: Trace: %d", e)
	}
	if _, e := Trace(b, 0, v[:2]); e != api.ErrRange {
		t.Errorf("P12.1: Trace: %d", e)
	}
	if _, e := Maps(b, 0); e != api.ErrRange {
		t.Errorf("P12.1: Maps: %d", e)
	}
	if _, e := Apply(sample.Matrix("1 0 / 0 1"), v); e != api.ErrInvalid {
		t.Errorf("P12.1: Apply: %d", e)
	}
	if r, e := Apply(sample.Matrix("1 2 3 / 4 5 6 / 7 8 9"), sample.Ratios("1 1 1")); sample.Text(r...) != "6 15 24" || e != api.OK {
		t.Errorf("P12.1: Apply: %d", e)
	}
	if Symplectic(sample.Matrix("1 0 0 / 0 1 0 / 0 1 1")) || Symplectic(api.Matrix{}) || !Symplectic(sample.Matrix("1 0 5 / 0 1 7 / 0 0 1")) {
		t.Error("P12.1: Symplectic")
	}
}

func code(_ api.Matrix, e api.Errno) api.Errno { return e }

// P12.1: numbers of the promised weight are never too large.
func TestWeight(t *testing.T) {
	for seed := range 30 {
		b := samplebeam.Line("quad q length 1 strength 1 ; bend r length 1 strength 1/2 radius 1 ;", "q r")
		long := 1 + seed%27
		q, r := &b.Places[0].Element, &b.Places[1].Element
		q.Length, q.Strength = sample.Heavy(long, 28-long, seed), sample.Heavy(28-long, long, seed+1)
		r.Length, r.Strength, r.Radius = sample.Heavy(9, 9, seed), sample.Heavy(1+seed%9, 10, seed+2), sample.Heavy(9, 9, seed+3)
		var w exact.Work
		r.Strength = w.Div(r.Strength, exact.Whole(10))
		b.Places[0].To, b.Places[1].From, b.Places[1].To = q.Length, q.Length, w.Add(q.Length, r.Length)
		for plane := 1; plane <= 2; plane++ {
			m, e := OneTurn(b, plane, 1)
			_, f := Trace(b, plane, []api.Ratio{sample.Heavy(6, 6, seed), sample.Heavy(1, 12, seed), sample.Heavy(12, 1, seed)})
			if e != api.OK || f != api.OK || !Symplectic(m) {
				t.Errorf("P12.1: seed %d: %d %d", seed, e, f)
			}
		}
	}
}
