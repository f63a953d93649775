package response

import (
	"slices"
	"testing"

	"betatron/api"
	"betatron/exact"
	"betatron/orbit"
	"betatron/sample"
	"betatron/samplebeam"
)

const parts = "quad qf strength 1/2 ; quad qd strength - 1/2 ; drift d length 1 ; monitor m ; corrector c plane h ; corrector v plane v ; "

func bounds(low, high string, n int) []api.Bounds {
	return slices.Repeat([]api.Bounds{{Low: sample.Ratio(low), High: sample.Ratio(high)}}, n)
}

func TestExamples(t *testing.T) {
	b := samplebeam.Line(parts, "m qf d qd d c")
	m, e := Matrix(b, 1)
	if sample.MatrixText(m) != "10" || e != api.OK {
		t.Errorf("P19.1: Matrix: %s %d", sample.MatrixText(m), e)
	}
	five := sample.Ratios("5")
	f, e := Correct(b, 1, five, bounds("-1", "1", 1))
	if sample.Text(f.X...) != "-1/2" || sample.Text(f.Cost) != "0" || e != api.OK {
		t.Errorf("P19.1: Correct: %s %d", sample.Text(f.X...), e)
	}
	narrow := bounds("-1/4", "1/4", 1)
	f, _ = Correct(b, 1, five, narrow)
	if sample.Text(f.X...) != "-1/4" || sample.Text(f.Cost) != "25/4" || !Check(b, 1, five, narrow, f) || Check(b, 1, sample.Ratios("6"), narrow, f) {
		t.Errorf("P19.1: Correct: %s", sample.Text(f.X...))
	}
}

func TestConsequences(t *testing.T) {
	b := samplebeam.Line(parts, "m qf d c m qd d m qf c d v m qd d")
	monitors, correctors, e := Devices(b, 1)
	if !slices.Equal(monitors, []int{0, 4, 7, 12}) || !slices.Equal(correctors, []int{3, 9}) || e != api.OK {
		t.Errorf("P19.1: Devices: %v %v %d", monitors, correctors, e)
	}
	kicks := sample.Ratios("1/2 -1/3")
	positions, e := Predict(b, 1, kicks)
	l, _ := orbit.Closed(b, 1, []api.Kick{{Place: 3, Plane: 1, Angle: kicks[0]}, {Place: 9, Plane: 1, Angle: kicks[1]}})
	for i, place := range monitors {
		if e != api.OK || !exact.Same(positions[i], l[place].Position) {
			t.Fatalf("P19.2: Predict: %s %d", sample.Text(positions...), e)
		}
	}
	wide := bounds("-5", "5", 2)
	f, e := Correct(b, 1, positions, wide)
	if sample.Text(f.X...) != "-1/2 1/3" || sample.Text(f.Cost) != "0" || e != api.OK {
		t.Errorf("P19.2: Correct: %s %d", sample.Text(f.X...), e)
	}
	var w exact.Work
	positions[2] = w.Add(positions[2], exact.One())
	suspect, e := Suspect(b, 1, positions, wide)
	if suspect != 2 || e != api.OK {
		t.Errorf("P19.1: Suspect: %d %d", suspect, e)
	}
}

func TestErrors(t *testing.T) {
	b := samplebeam.Line(parts, "m qf d qd d c")
	for i, c := range []struct {
		line  string
		plane int
		want  api.Errno
	}{{"m qf d qd d c", 0, api.ErrRange}, {"qf d qd d c", 1, api.ErrNone}, {"m qf d qd d c", 2, api.ErrNone}, {"21 * m qf d qd d c", 1, api.ErrTooLarge}, {"m d c", 1, api.ErrSingular}} {
		if _, e := Matrix(samplebeam.Line(parts, c.line), c.plane); e != c.want {
			t.Errorf("P19.1: Matrix, row %d: %d", i, e)
		}
	}
	if _, e := Predict(b, 1, nil); e != api.ErrRange {
		t.Errorf("P19.1: Predict: %d", e)
	}
	if _, e := Predict(b, 1, sample.Ratios("x")); e != api.ErrInvalid {
		t.Errorf("P19.1: Predict: %d", e)
	}
	for i, c := range []struct {
		measured string
		l        []api.Bounds
		want     api.Errno
	}{{"1 2", nil, api.ErrRange}, {"x", nil, api.ErrInvalid}, {"1", nil, api.ErrRange}, {"1", bounds("1", "0", 1), api.ErrOrder}} {
		if _, e := Correct(b, 1, sample.Ratios(c.measured), c.l); e != c.want {
			t.Errorf("P19.1: Correct, row %d: %d", i, e)
		}
		if _, e := Suspect(b, 1, sample.Ratios(c.measured), c.l); e != c.want {
			t.Errorf("P19.1: Suspect, row %d: %d", i, e)
		}
	}
	if _, e := Suspect(b, 1, sample.Ratios("1"), bounds("0", "1", 1)); e != api.ErrNone {
		t.Errorf("P19.1: Suspect: %d", e)
	}
	twice := samplebeam.Line(parts, "m qf d qd d c c")
	if _, e := Correct(twice, 1, sample.Ratios("1"), bounds("0", "1", 2)); e != api.ErrSingular {
		t.Errorf("P19.1: Correct: %d", e)
	}
	if _, e := Suspect(twice, 1, sample.Ratios("1"), bounds("0", "1", 2)); e != api.ErrNone {
		t.Errorf("P19.1: Suspect: %d", e)
	}
	m := sample.Matrix("1 2 / 3 4 / 5 6")
	for i, c := range []struct {
		rows []int
		text string
		want api.Errno
	}{{[]int{0, 2}, "3 4", 0}, {nil, "1 2 / 3 4 / 5 6", 0}, {[]int{3}, "", api.ErrRange}, {[]int{1, 1}, "", api.ErrOrder}, {[]int{1, 0, 7}, "", api.ErrOrder}, {[]int{0, 1, 2}, "", api.ErrEmpty}} {
		if r, e := Without(m, c.rows); sample.MatrixText(r) != c.text || e != c.want {
			t.Errorf("P19.1: Without, row %d: %d", i, e)
		}
	}
	if _, e := Without(api.Matrix{}, nil); e != api.ErrInvalid {
		t.Errorf("P19.1: Without: %d", e)
	}
}
