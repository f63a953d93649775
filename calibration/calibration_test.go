package calibration

import (
	"slices"
	"testing"

	"betatron/api"
	"betatron/exact"
	"betatron/interval"
	"betatron/sample"
)

func curve(l ...int) api.Curve {
	var c api.Curve
	for i := 0; i+1 < len(l); i += 2 {
		c.Points = append(c.Points, api.Point{X: l[i], Y: l[i+1]})
	}
	return c
}

var rising, falling, bent = curve(0, 0, 10, 100, 20, 120), curve(-5, 9, 0, 4, 7, -3), curve(0, 0, 10, 5, 20, 0)

func TestExamples(t *testing.T) {
	for i, c := range []struct {
		f    func(c api.Curve, x api.Ratio) (api.Ratio, api.Errno)
		x    string
		want string
		e    api.Errno
	}{
		{Value, "5/2", "25", 0}, {Value, "15", "110", 0}, {Value, "0", "0", 0}, {Value, "20", "120", 0}, {Value, "-1", "?", api.ErrRange}, {Value, "41/2", "?", api.ErrRange},
		{Inverse, "110", "15", 0}, {Inverse, "121", "?", api.ErrRange}, {Slope, "10", "2", 0}, {Slope, "20", "2", 0}, {Slope, "9", "10", 0}, {Slope, "0", "10", 0}, {Slope, "x", "?", api.ErrInvalid},
	} {
		if r, e := c.f(rising, sample.Ratio(c.x)); sample.Text(r) != c.want || e != c.e {
			t.Errorf("P21.1: row %d: %s %d", i, sample.Text(r), e)
		}
	}
	r, e := Range(rising, sample.Interval("5", "15"))
	if sample.Text(r.Low, r.High) != "50 110" || e != api.OK {
		t.Errorf("P21.1: Range: %s %d", sample.Text(r.Low, r.High), e)
	}
	if r, _ := Range(bent, sample.Interval("2", "19")); sample.Text(r.Low, r.High) != "1/2 5" {
		t.Errorf("P21.1: Range: %s", sample.Text(r.Low, r.High))
	}
	for _, c := range []struct {
		a, b api.Curve
		want string
		e    api.Errno
	}{{rising, curve(0, 0, 20, 100), "50", 0}, {rising, rising, "0", 0}, {rising, curve(20, 0, 30, 5), "120", 0}, {rising, curve(21, 0, 30, 5), "?", api.ErrNone}} {
		d, e := Distance(c.a, c.b)
		other, _ := Distance(c.b, c.a)
		if sample.Text(d) != c.want || e != c.e || !exact.Same(d, other) {
			t.Errorf("P21.1: Distance: %s %d", sample.Text(d), e)
		}
	}
}

func TestConsequences(t *testing.T) {
	for _, c := range []api.Curve{rising, falling} {
		swapped, e := Swap(c)
		back, _ := Swap(swapped)
		if e != api.OK || Valid(swapped) != api.OK || !slices.Equal(back.Points, c.Points) {
			t.Errorf("P21.2: Swap: %v %d", swapped, e)
		}
		for x := c.Points[0].X; x <= c.Points[2].X; x++ {
			y, _ := Value(c, exact.Whole(x))
			at, _ := Inverse(c, y)
			if !exact.Same(at, exact.Whole(x)) {
				t.Errorf("P21.2: the inverse of %s is %s", sample.Text(y), sample.Text(at))
			}
			r, _ := Range(c, sample.Interval("0", "3"))
			if x >= 0 && x <= 3 && !interval.Contains(r, y) {
				t.Error("P21.2: Range")
			}
		}
	}
	more, e := Put(rising, api.Point{X: 5, Y: 50})
	d, _ := Distance(more, rising)
	if len(more.Points) != 4 || e != api.OK || sample.Text(d) != "0" || len(rising.Points) != 3 {
		t.Errorf("P21.2: Put: %v %d", more, e)
	}
	other, _ := Put(rising, api.Point{X: 10, Y: 7})
	if !slices.Equal(other.Points, curve(0, 0, 10, 7, 20, 120).Points) || rising.Points[1].Y != 100 {
		t.Errorf("P21.1: Put: %v", other)
	}
}

func TestErrors(t *testing.T) {
	long := curve()
	for x := range 60 {
		long.Points = append(long.Points, api.Point{X: x})
	}
	for i, c := range []struct {
		c    api.Curve
		want api.Errno
	}{
		{curve(0, 0), api.ErrEmpty}, {api.Curve{Points: append(slices.Clone(long.Points), api.Point{X: 99})}, api.ErrTooLarge}, {curve(0, 0, 1<<40+1, 0), api.ErrRange},
		{curve(0, -(1<<40)-1, 0, 0), api.ErrRange}, {curve(1, 0, 1, 5), api.ErrOrder}, {curve(-(1 << 40), 1<<40, 1<<40, -(1 << 40)), 0}, {long, 0},
	} {
		if e := Valid(c.c); e != c.want {
			t.Errorf("P21.1: row %d: %d", i, e)
		}
	}
	for i, c := range []struct {
		c    api.Curve
		p    api.Point
		want api.Errno
	}{{long, api.Point{X: 60}, api.ErrTooLarge}, {long, api.Point{X: 59, Y: 3}, 0}, {rising, api.Point{X: 1<<40 + 1}, api.ErrRange}} {
		if _, e := Put(c.c, c.p); e != c.want {
			t.Errorf("P21.1: Put, row %d: %d", i, e)
		}
	}
	if _, e := Swap(bent); e != api.ErrState {
		t.Errorf("P21.1: Swap: %d", e)
	}
	if _, e := Inverse(bent, api.Ratio{}); e != api.ErrInvalid {
		t.Errorf("P21.1: Inverse: %d", e)
	}
	if _, e := Inverse(bent, exact.Whole(99)); e != api.ErrState {
		t.Errorf("P21.1: Inverse: %d", e)
	}
	if _, e := Range(rising, sample.Interval("1", "0")); e != api.ErrInvalid {
		t.Errorf("P21.1: Range: %d", e)
	}
	if _, e := Range(rising, sample.Interval("1", "21")); e != api.ErrRange {
		t.Errorf("P21.1: Range: %d", e)
	}
}
