package leastsquares

import (
	"math/rand"
	"slices"
	"testing"

	"betatron/api"
	"betatron/exact"
	"betatron/ratio"
	"betatron/sample"
)

func bounds(l ...string) []api.Bounds {
	var result []api.Bounds
	for i := 0; i < len(l); i += 2 {
		result = append(result, api.Bounds{Low: sample.Ratio(l[i]), High: sample.Ratio(l[i+1])})
	}
	return result
}

func text(f api.Fit) string {
	return sample.Text(f.X...) + ", " + sample.Text(f.Gradient...) + ", " + sample.Text(f.Cost)
}

func TestExamples(t *testing.T) {
	a, b := sample.Matrix("1 1 / 1 2 / 1 3"), sample.Ratios("1 2 2")
	free, e := Free(a, b)
	if text(free) != "2/3 1/2, 0 0, 1/6" || e != api.OK {
		t.Errorf("P7.1: Free: %s %d", text(free), e)
	}
	l := bounds("0", "1/2", "0", "1")
	f, e := Bounded(a, b, l)
	if text(f) != "1/2 4/7, -1/14 0, 5/28" || e != api.OK || !Check(a, b, l, f) {
		t.Errorf("P7.1: Bounded: %s %d", text(f), e)
	}
	if prices, e := Price(a, b, l); sample.Text(prices...) != "1/84 0" || e != api.OK {
		t.Errorf("P7.1: Price: %s %d", sample.Text(prices...), e)
	}
	if active, e := Active(l, f); !slices.Equal(active, []int{0}) || e != api.OK {
		t.Errorf("P7.1: Active: %v %d", active, e)
	}
	if r, _ := Residual(a, b, sample.Ratios("1 1")); sample.Text(r...) != "1 1 2" {
		t.Errorf("P7.1: Residual: %s", sample.Text(r...))
	}
	if n, _ := Norm(sample.Ratios("1/2 -3")); sample.Text(n) != "37/4" {
		t.Errorf("P7.1: Norm: %s", sample.Text(n))
	}
}

func TestConsequences(t *testing.T) {
	r := rand.New(rand.NewSource(9))
	for k := 0; k < 80; k++ {
		n := r.Intn(3) + 1
		a := api.Matrix{Rows: n + r.Intn(2), Cols: n}
		var b []api.Ratio
		var narrow, wide []api.Bounds
		for range a.Rows * n {
			a.Cells = append(a.Cells, exact.Whole(r.Intn(7)-3))
		}
		for range a.Rows {
			b = append(b, exact.Whole(r.Intn(9)-4))
		}
		for range n {
			low := r.Intn(3) - 2
			high := low + r.Intn(3)
			narrow = append(narrow, api.Bounds{Low: exact.Whole(low), High: exact.Whole(high)})
			wide = append(wide, api.Bounds{Low: exact.Whole(low - 1), High: exact.Whole(high + 1)})
		}
		f, e := Bounded(a, b, narrow)
		if e == api.ErrSingular {
			continue
		}
		g, _ := Bounded(a, b, wide)
		free, _ := Free(a, b)
		if e != api.OK || !Check(a, b, narrow, f) || ratio.Cmp(g.Cost, f.Cost) > 0 || ratio.Cmp(free.Cost, g.Cost) > 0 {
			t.Fatalf("P7.2: %s: %s", sample.MatrixText(a), text(f))
		}
		for _, d := range free.Gradient {
			if !exact.IsZero(d) {
				t.Fatal("P7.2: gradient without bounds")
			}
		}
		prices, _ := Price(a, b, narrow)
		active, _ := Active(narrow, f)
		for i, price := range prices {
			if exact.Sign(price) < 0 || !slices.Contains(active, i) && exact.Sign(price) != 0 {
				t.Fatalf("P7.2: prices %s", sample.Text(prices...))
			}
		}
		// A point elsewhere within the bounds costs more, and is not accepted.
		other := make([]api.Ratio, n)
		for i := range other {
			other[i] = narrow[i].High
		}
		residual, _ := Residual(a, b, other)
		cost, _ := Norm(residual)
		if sample.Text(other...) != sample.Text(f.X...) && ratio.Cmp(cost, f.Cost) <= 0 {
			t.Fatal("P7.2: a point elsewhere costs as little")
		}
	}
}

func TestErrors(t *testing.T) {
	a, b, l := sample.Matrix("1 1 / 1 2"), sample.Ratios("1 2"), bounds("0", "1", "0", "1")
	for k, c := range []struct{ got, want api.Errno }{
		{code(Free(sample.Matrix("1 2 / 2 4"), b)), api.ErrSingular}, {code(Free(a, sample.Ratios("1"))), api.ErrRange},
		{code(Free(a, sample.Ratios("1 x"))), api.ErrInvalid}, {code(Bounded(a, b, bounds("0", "1"))), api.ErrRange},
		{code(Bounded(a, b, bounds("1", "0", "0", "1"))), api.ErrOrder}, {code(Bounded(a, b, bounds("x", "0", "0", "1"))), api.ErrInvalid},
		{code(Bounded(sample.Matrix("1 2 / 2 4"), b, bounds("1", "0", "0", "1"))), api.ErrOrder},
		{code(Free(sample.Matrix("1 1 1 1 1 1 1"), sample.Ratios("1"))), api.ErrRange}, {code(Free(sample.Matrix("1 1"), sample.Ratios("1"))), api.ErrSingular},
	} {
		if c.got != c.want {
			t.Errorf("P7.1: row %d: %d", k, c.got)
		}
	}
	if _, e := Norm(slices.Repeat(sample.Ratios("1"), 401)); e != api.ErrRange {
		t.Errorf("P7.1: Norm: %d", e)
	}
	if _, e := Residual(a, b, b[:1]); e != api.ErrRange {
		t.Errorf("P7.1: Residual: %d", e)
	}
	if _, e := Active(l, api.Fit{X: b[:1]}); e != api.ErrRange {
		t.Errorf("P7.1: Active: %d", e)
	}
	if _, e := Active(bounds("1", "0"), api.Fit{X: b[:1]}); e != api.ErrOrder {
		t.Errorf("P7.1: Active: %d", e)
	}
	f, _ := Bounded(a, b, l)
	cost := f
	cost.Cost = exact.Whole(7)
	if Check(a, b, l, cost) || Check(a, b, l[:1], f) || Check(a, b, l, api.Fit{}) || !Check(a, b, l, f) {
		t.Error("P7.1: Check")
	}
	// Where both bounds are equal, any gradient is right.
	point := bounds("1", "1", "-5", "5")
	if g, e := Bounded(a, b, point); e != api.OK || !Check(a, b, point, g) || sample.Text(g.X[0]) != "1" {
		t.Errorf("P7.1: equal bounds: %s %d", text(g), e)
	}
}

func code(_ api.Fit, e api.Errno) api.Errno { return e }
