package ramp

import (
	"slices"
	"strings"
	"testing"

	"betatron/api"
	"betatron/exact"
	"betatron/sample"
)

func parse(t *testing.T, s string) api.Ramp {
	t.Helper()
	r, line, e := Parse(s)
	if e != api.OK || line != 0 {
		t.Fatalf("Parse of %q: %d %d", s, line, e)
	}
	return r
}

// limits returns limits from seven numbers: Low, High, Slope, VoltageLow, VoltageHigh, Resistance and Inductance.
func limits(s string) api.Limits {
	l := sample.Ratios(s)
	return api.Limits{Low: l[0], High: l[1], Slope: l[2], VoltageLow: l[3], VoltageHigh: l[4], Resistance: l[5], Inductance: l[6]}
}

const example = "0 2000 0 0 10\n2000 3000 40 40\n"

func TestExamples(t *testing.T) {
	r := parse(t, example)
	for time, want := range map[string]string{"0": "0", "1000": "10", "2000": "40", "2500": "60", "3000": "80"} {
		if c, e := Current(r, sample.Ratio(time)); sample.Text(c) != want || e != api.OK {
			t.Errorf("P22.1: Current at %s: %s %d", time, sample.Text(c), e)
		}
	}
	wide := limits("0 80 40 -10 200 1 1/2")
	if v, e := Voltage(r, wide, sample.Ratio("1000")); sample.Text(v) != "20" || e != api.OK {
		t.Errorf("P22.1: Voltage: %s %d", sample.Text(v), e)
	}
	proof, e := Prove(r, wide)
	if e != api.OK || !Check(r, wide, proof) {
		t.Errorf("P22.1: Prove: %d", e)
	}
	if _, e := Violation(r, wide); e != api.ErrNone {
		t.Errorf("P22.1: Violation: %d", e)
	}
	narrow := limits("0 80 39 -10 200 1 1/2")
	v, e := Violation(r, narrow)
	if v.Segment != 0 || v.Condition != 3 || sample.Text(v.Time) != "2000" || e != api.OK {
		t.Errorf("P22.1: Violation: %v %d", v, e)
	}
	if _, e := Prove(r, narrow); e != api.ErrConflict || Check(r, narrow, proof) {
		t.Errorf("P22.1: Prove: %d", e)
	}
	if s, e := Format(r); s != example || e != api.OK {
		t.Errorf("P22.2: Format: %q %d", s, e)
	}
}

func TestViolations(t *testing.T) {
	for i, c := range []struct {
		text, limits string
		condition    int
		time         string
		e            api.Errno
	}{
		{"0 1000 0 1 -1\n", "0 1/5 9 -9 9 0 0", 1, "400", 0}, {"0 3000 0 3 -1\n", "0 2 9 -9 9 0 0", 1, "1400", 0},
		{"0 1000 0 1 -1\n", "0 1/4 9 -9 9 0 0", 0, "", api.ErrNone}, {"0 1000 0 -1 1\n", "-1/5 9 9 -9 9 0 0", 2, "400", 0},
		{"0 1000 0 1 -1\n", "0 1 9 -9 9/10 0 1", 5, "0", 0}, {"0 1000 0 1 -1\n", "0 1 9 -9/10 9 0 1", 6, "1000", 0},
		{"0 1000\n", "0 0 0 0 0 1 1", 0, "", api.ErrNone}, {"0 2000 1 -2 1\n", "0 9 9 -99 99 0 0", 0, "", api.ErrNone},
		{"0 2000 0 1 -2 1\n", "0 9 9 -99 99 0 0", 0, "", api.ErrNone}, {"0 2000 0 1 -21/10 1\n", "0 9 9 -99 99 0 0", 2, "1000", 0},
	} {
		v, e := Violation(parse(t, c.text), limits(c.limits))
		if c.e != api.OK {
			if e != c.e {
				t.Errorf("P22.1: row %d: %v %d", i, v, e)
			}
			continue
		}
		if v.Condition != c.condition || sample.Text(v.Time) != c.time || e != api.OK {
			t.Errorf("P22.1: row %d: %d %s %d", i, v.Condition, sample.Text(v.Time), e)
		}
	}
}

func TestJoin(t *testing.T) {
	a, b := parse(t, example), parse(t, "500 700 80 -5\n700 900 79\n")
	r, e := Join(a, b)
	s, _ := Format(r)
	if s != example+"3000 3200 80 -5\n3200 3400 79\n" || e != api.OK {
		t.Errorf("P22.1: Join: %q %d", s, e)
	}
	x, _ := Current(r, sample.Ratio("3100"))
	y, _ := Current(b, sample.Ratio("600"))
	if !exact.Same(x, y) {
		t.Error("P22.2: the current of a joined ramp")
	}
	if _, e := Join(b, a); e != api.ErrConflict {
		t.Errorf("P22.1: Join: %d", e)
	}
	long := parse(t, "0 10000000 1\n")
	if _, e := Join(a, long); e != api.ErrRange {
		t.Errorf("P22.1: Join: %d", e)
	}
	many := api.Ramp{}
	for i := range 39 {
		many.Segments = append(many.Segments, api.Segment{From: i, To: i + 1})
	}
	if _, e := Join(many, a); e != api.ErrTooLarge {
		t.Errorf("P22.1: Join: %d", e)
	}
}

func TestParse(t *testing.T) {
	for i, c := range []struct {
		s    string
		line int
		e    api.Errno
	}{
		{"", 0, api.ErrEmpty}, {"0 1 1", 1, api.ErrSyntax}, {"0 1\n\n", 2, api.ErrSyntax}, {"0 1 \n", 1, api.ErrSyntax}, {"00 1\n", 1, api.ErrSyntax}, {"0 1 2/4\n", 1, api.ErrSyntax},
		{"0 1 1.5\n", 1, api.ErrSyntax}, {"0 1 1 1 1 1 1\n", 1, api.ErrSyntax}, {"0 1000000000\n", 1, api.ErrSyntax}, {"0 999999999\n", 0, api.ErrRange}, {"-1 1\n", 1, api.ErrSyntax},
		{"0 1 5\n1 2 6\n", 0, api.ErrConflict}, {"0 1\n2 3\n", 0, api.ErrOrder}, {"1 1\n", 0, api.ErrRange}, {"0 1 1 0\n", 0, api.ErrInvalid}, {strings.Repeat("0 1\n", 5001), 0, api.ErrTooLarge},
		{"0 1\n1 x\n", 2, api.ErrSyntax}, {"0 +1\n", 1, api.ErrSyntax},
	} {
		if r, line, e := Parse(c.s); line != c.line || e != c.e || r.Segments != nil {
			t.Errorf("P22.1: Parse, row %d: %d %d", i, line, e)
		}
	}
}

func TestErrors(t *testing.T) {
	r, l := parse(t, example), limits("0 80 40 -10 200 1 1/2")
	for time, want := range map[string]api.Errno{"x": api.ErrInvalid, "-1": api.ErrRange, "3001": api.ErrRange} {
		if _, e := Current(r, sample.Ratio(time)); e != want {
			t.Errorf("P22.1: Current: %d", e)
		}
		if _, e := Voltage(r, l, sample.Ratio(time)); e != want {
			t.Errorf("P22.1: Voltage: %d", e)
		}
	}
	for i, c := range []struct {
		s    string
		want api.Errno
	}{{"1 0 1 1 1 1 x", api.ErrInvalid}, {"1 0 1 0 1 1 1", api.ErrRange}, {"0 1 -1 0 1 1 1", api.ErrRange}, {"0 1 1 1 0 1 1", api.ErrRange}, {"0 1 1 0 1 -1 1", api.ErrRange}, {"0 1 1 0 1 1 -1", api.ErrRange}} {
		if _, e := Prove(r, limits(c.s)); e != c.want {
			t.Errorf("P22.1: Prove, row %d: %d", i, e)
		}
	}
	if e := Valid(api.Ramp{Segments: slices.Repeat([]api.Segment{{From: 0, To: 1}}, 41)}); e != api.ErrTooLarge {
		t.Errorf("P22.1: Valid: %d", e)
	}
	five := api.Ramp{Segments: []api.Segment{{From: 0, To: 1, Poly: api.Poly{Coeffs: sample.Ratios("1 1 1 1 1")}}}}
	if e := Valid(five); e != api.ErrTooLarge {
		t.Errorf("P22.1: Valid: %d", e)
	}
	if Check(r, l, api.RampProof{}) || Check(r, l, api.RampProof{Points: make([][][]api.Ratio, 2)}) {
		t.Error("P22.1: Check")
	}
}
