package tune

import (
	"slices"
	"testing"

	"betatron/api"
	"betatron/exact"
	"betatron/matrix"
	"betatron/ratio"
	"betatron/sample"
	"betatron/samplebeam"
	"betatron/transfer"
)

var cell = sample.Matrix("1/4 5/2 0 / -1/4 3/2 0 / 0 0 1")

func text(b api.Bracket) string { return sample.Text(b.Low, b.High) }

func TestExamples(t *testing.T) {
	for n := 0; n < 7; n++ {
		u, e := Sine(cell, n)
		if want := []int{1, 1, 1, 1, 1, 1, -1}[n]; exact.Sign(u) != want || e != api.OK {
			t.Errorf("P14.1: U_%d is %s", n, sample.Text(u))
		}
	}
	b, e := Fraction(cell, 7)
	if text(b) != "1/14 1/7" || b.Turns != 7 || e != api.OK || !Check(cell, b) {
		t.Errorf("P14.1: Fraction: %s %d", text(b), e)
	}
	for q, want := range map[int]int{13: 1, 12: -1} {
		if c, e := Compare(cell, 1, q); c != want || e != api.OK {
			t.Errorf("P14.1: Compare with 1/%d: %d", q, c)
		}
	}
	quarter := sample.Matrix("0 1 0 / -1 0 0 / 0 0 1")
	if c, _ := Compare(quarter, 1, 4); c != 0 {
		t.Errorf("P14.1: Compare: %d", c)
	}
	if b, _ := Fraction(quarter, 2); text(b) != "1/4 1/2" {
		t.Errorf("P14.1: Fraction: %s", text(b))
	}
	if c, _ := Compare(sample.Matrix("0 -1 0 / 1 0 0 / 0 0 1"), 3, 4); c != 0 {
		t.Errorf("P14.1: Compare: %d", c)
	}
}

func TestConsequences(t *testing.T) {
	for _, s := range []string{"0 1 0 / -1 0 0 / 0 0 1", "1/4 5/2 0 / -1/4 3/2 0 / 0 0 1", "-1/2 1 0 / -3/4 -1/2 0 / 0 0 1", "1/2 -1 0 / 3/4 1/2 0 / 0 0 1", "-1 1 0 / -1 0 0 / 0 0 1"} {
		m := sample.Matrix(s)
		back, _ := transfer.Back(m)
		var brackets []api.Bracket
		for n := 1; n <= 40; n++ {
			b, e := Fraction(m, n)
			if e != api.OK || !Check(m, b) {
				t.Fatalf("P14.2: %s with %d turns: %s", s, n, text(b))
			}
			for _, other := range brackets {
				if ratio.Cmp(b.Low, other.High) > 0 || ratio.Cmp(other.Low, b.High) > 0 {
					t.Fatalf("P14.2: %s: %s and %s", s, text(b), text(other))
				}
			}
			brackets = append(brackets, b)
			power, _ := matrix.Power(m, n)
			direct, _ := Cosine(m, n)
			first, _ := Cosine(power, 1)
			if !exact.Same(direct, first) {
				t.Fatalf("P14.2: T_%d of %s", n, s)
			}
			for p := 0; p <= n; p++ {
				c, _ := Compare(m, p, n)
				d, _ := Compare(back, n-p, n)
				if c != -d {
					t.Fatalf("P14.2: %s and its inverse at %d/%d", s, p, n)
				}
			}
		}
	}
}

func TestCheck(t *testing.T) {
	for i, c := range []struct {
		low, high string
		turns     int
		want      bool
	}{
		{"1/14", "1/7", 7, true}, {"1/14", "1/7", 14, true}, {"1/14", "1/7", 15, false}, {"1/12", "1/7", 7, false}, {"0", "1/13", 7, false},
		{"1/14", "1/7", 0, false}, {"1/14", "1/7", 201, false}, {"0", "1", 1, true}, {"1/201", "1/7", 1, false}, {"1/7", "1/14", 1, false}, {"-1/2", "1/2", 1, false}, {"x", "1", 1, false},
	} {
		if Check(cell, api.Bracket{Low: sample.Ratio(c.low), High: sample.Ratio(c.high), Turns: c.turns}) != c.want {
			t.Errorf("P14.1: Check, row %d", i)
		}
	}
	quarter := sample.Matrix("0 1 0 / -1 0 0 / 0 0 1")
	if !Check(quarter, api.Bracket{Low: sample.Ratio("1/4"), High: sample.Ratio("1/4"), Turns: 200}) {
		t.Error("P14.1: Check of a point")
	}
}

func TestErrors(t *testing.T) {
	drift := sample.Matrix("1 1 0 / 0 1 0 / 0 0 1")
	for i, c := range []struct{ got, want api.Errno }{
		{code(Cosine(cell, 201)), api.ErrRange}, {code(Sine(cell, -1)), api.ErrRange}, {code(Cosine(sample.Matrix("1 2 / 3 4"), 500)), api.ErrInvalid},
		{code(Cosine(drift, 200)), api.OK}, {code(Sine(drift, 200)), api.OK},
	} {
		if c.got != c.want {
			t.Errorf("P14.1: row %d: %d", i, c.got)
		}
	}
	for n, want := range map[int]api.Errno{0: api.ErrRange, 101: api.ErrRange, 1: api.ErrUnstable} {
		if _, e := Fraction(drift, n); e != want {
			t.Errorf("P14.1: Fraction: %d", e)
		}
	}
	for _, c := range []struct {
		p, q int
		want api.Errno
	}{{0, 0, api.ErrRange}, {2, 1, api.ErrRange}, {-1, 1, api.ErrRange}, {1, 201, api.ErrRange}, {1, 2, api.ErrUnstable}} {
		if _, e := Compare(drift, c.p, c.q); e != c.want {
			t.Errorf("P14.1: Compare: %d", e)
		}
	}
}

func code(_ api.Ratio, e api.Errno) api.Errno { return e }

func TestResonances(t *testing.T) {
	bracket := func(low, high string) api.Bracket {
		return api.Bracket{Low: sample.Ratio(low), High: sample.Ratio(high)}
	}
	if l, e := Resonances(bracket("1/4", "3/10"), 8); !slices.Equal(l, []int{4, 7, 8}) || e != api.OK {
		t.Errorf("P14.1: Resonances: %v %d", l, e)
	}
	for i, c := range []struct {
		low, high string
		most      int
		want      api.Errno
	}{{"x", "1", 0, api.ErrInvalid}, {"1/2", "1/4", 5, api.ErrRange}, {"0", "2", 5, api.ErrRange}, {"0", "1", 201, api.ErrRange}, {"0", "1", 0, api.ErrRange}} {
		if _, e := Resonances(bracket(c.low, c.high), c.most); e != c.want {
			t.Errorf("P14.1: Resonances, row %d: %d", i, e)
		}
	}
}

func TestWhole(t *testing.T) {
	// Each cell advances the phase by a little more than 1/13 of a turn.
	for cells, want := range map[string]int{"12 * c": 0, "13 * c": 1, "24 * c": 1, "25 * c": 2} {
		b := samplebeam.Line("quad qf strength 1/2 ; quad qd strength - 1/2 ; drift d length 1 ; line c = qf d qd d ;", cells)
		whole, bracket, e := Whole(b, 1, 5)
		m, _ := transfer.OneTurn(b, 1, 0)
		fraction, _ := Fraction(m, 5)
		if whole != want || text(bracket) != text(fraction) || e != api.OK {
			t.Errorf("P14.1: Whole of %s: %d %s %d", cells, whole, text(bracket), e)
		}
	}
	// The phase of four quarter turns is a whole turn, where the motion is not stable any more.
	quarter := "quad q strength 1 ; drift d length 1 ; quad r strength 2 ; "
	for line, want := range map[string]int{"q d q d": 0, "d r d q d r d q": 0} {
		b := samplebeam.Line(quarter, line)
		if whole, _, e := Whole(b, 1, 3); e == api.OK && whole != want {
			t.Errorf("P14.1: Whole of %s: %d", line, whole)
		}
	}
	thick := samplebeam.Line("quad q length 4 strength 2 ; drift d length 1 ;", "q d q d")
	if _, _, e := Whole(thick, 1, 0); e != api.ErrRange {
		t.Errorf("P14.1: Whole: %d", e)
	}
	if _, _, e := Whole(samplebeam.Line("drift d length 1 ;", "d"), 1, 3); e != api.ErrUnstable {
		t.Errorf("P14.1: Whole: %d", e)
	}
	if _, _, e := Whole(samplebeam.Cell(), 0, 0); e != api.ErrRange {
		t.Errorf("P14.1: Whole: %d", e)
	}
	lens := samplebeam.Line("quad q length 2 strength 5/2 ;", "q")
	if _, _, e := Whole(lens, 1, 3); e != api.ErrUnstable && e != api.ErrRange {
		t.Errorf("P14.1: Whole: %d", e)
	}
}
