package feedback

import (
	"math/rand"
	"slices"
	"testing"

	"betatron/api"
	"betatron/exact"
	"betatron/ratio"
	"betatron/sample"
)

func bounds(low, high string, n int) []api.Bounds {
	var l []api.Bounds
	for range n {
		l = append(l, api.Bounds{Low: sample.Ratio(low), High: sample.Ratio(high)})
	}
	return l
}

func feedback(response, gain string) api.Feedback {
	m := sample.Matrix(response)
	return api.Feedback{Response: m, Gain: sample.Ratio(gain), Bounds: bounds("-100", "100", m.Cols), Change: bounds("-50", "50", m.Cols)}
}

func TestExamples(t *testing.T) {
	f := feedback("2 / 1", "1/2")
	if l, e := Step(f, sample.Ratios("0"), []int{10, 5}); sample.Text(l...) != "-5/2" || e != api.OK {
		t.Errorf("P42.1: Step: %s %d", sample.Text(l...), e)
	}
	for truth, want := range map[string]string{"2 / 1": "1/2", "4 / 2": "0", "8 / 4": "-1"} {
		if m, e := Error(f, sample.Matrix(truth)); sample.MatrixText(m) != want || e != api.OK {
			t.Errorf("P42.1: Error: %s %d", sample.MatrixText(m), e)
		}
	}
	one := sample.Ratios("1")
	for _, c := range []struct {
		truth, factor string
		want          bool
	}{{"2 / 1", "1/4", true}, {"2 / 1", "6/25", false}, {"4 / 2", "0", true}, {"8 / 4", "99/100", false}, {"2 / 1", "1/2", true}, {"2 / 1", "1", false}, {"2 / 1", "-1", false}} {
		if CheckConvergence(f, sample.Matrix(c.truth), one, sample.Ratio(c.factor)) != c.want {
			t.Errorf("P42.1: CheckConvergence: %s %s", c.truth, c.factor)
		}
	}
	if l, e := Model(sample.Matrix("1/2 / -1/2"), []int{3, 3}, sample.Ratios("1")); !slices.Equal(l, []int{4, 3}) || e != api.OK {
		t.Errorf("P42.1: Model: %v %d", l, e)
	}
	if l, e := Run(f, sample.Matrix("4 / 2"), []int{10, 5}, 3); sample.Text(l...) != "-5/2" || e != api.OK {
		t.Errorf("P42.1: Run: %s %d", sample.Text(l...), e)
	}
	if l, _ := Run(f, sample.Matrix("4 / 2"), []int{10, 5}, 0); sample.Text(l...) != "0" {
		t.Errorf("P42.1: Run: %s", sample.Text(l...))
	}
}

func TestLimits(t *testing.T) {
	f := feedback("2 0 / 1 1 / 0 3", "1")
	f.Bounds, f.Change = bounds("-3", "2", 2), bounds("-1", "1/2", 2)
	r := rand.New(rand.NewSource(27))
	kicks := sample.Ratios("0 0")
	var w exact.Work
	for range 60 {
		next, e := Step(f, kicks, []int{r.Intn(21) - 10, r.Intn(21) - 10, r.Intn(21) - 10})
		if e != api.OK {
			t.Fatalf("P42.1: Step: %d", e)
		}
		for i, kick := range next {
			if !contains(f.Bounds[i], kick) || !contains(f.Change[i], w.Sub(kick, kicks[i])) {
				t.Fatalf("P42.2: %s behind %s", sample.Text(next...), sample.Text(kicks...))
			}
		}
		kicks = next
	}
}

// P42.2: a factor that is accepted bounds the weighted sum of squares of any error.
func TestConvergence(t *testing.T) {
	f := feedback("2 0 / 1 1", "1/2")
	same, _ := Error(f, f.Response)
	if sample.MatrixText(same) != "1/2 0 / 0 1/2" || !CheckConvergence(f, f.Response, sample.Ratios("3 1/7"), sample.Ratio("1/4")) {
		t.Errorf("P42.2: %s", sample.MatrixText(same))
	}
	r := rand.New(rand.NewSource(28))
	accepted := 0
	for range 200 {
		truth := api.Matrix{Rows: 2, Cols: 2}
		for range 4 {
			truth.Cells = append(truth.Cells, exact.Fraction(r.Intn(7)-1, 2))
		}
		weights := []api.Ratio{exact.Whole(r.Intn(3) + 1), exact.Whole(r.Intn(3) + 1)}
		factor := exact.Fraction(r.Intn(10), 10)
		if !CheckConvergence(f, truth, weights, factor) {
			continue
		}
		accepted++
		a, _ := Error(f, truth)
		var w exact.Work
		for range 20 {
			v := []api.Ratio{exact.Whole(r.Intn(11) - 5), exact.Whole(r.Intn(11) - 5)}
			size := func(v []api.Ratio) api.Ratio {
				return w.Add(w.Mul(weights[0], v[0], v[0]), w.Mul(weights[1], v[1], v[1]))
			}
			next := []api.Ratio{w.Dot(a.Cells[:2], v), w.Dot(a.Cells[2:], v)}
			if ratio.Cmp(size(next), w.Mul(factor, size(v))) > 0 {
				t.Fatal("P42.2: the error does not fall by the factor")
			}
		}
		if !CheckConvergence(f, truth, weights, sample.Ratio("19/20")) {
			t.Fatal("P42.2: a greater factor")
		}
	}
	if accepted < 10 {
		t.Errorf("too few: %d", accepted)
	}
	if !isSemidefinite([][]api.Ratio{sample.Ratios("0 0"), sample.Ratios("0 1")}, &exact.Work{}) || isSemidefinite([][]api.Ratio{sample.Ratios("0 1"), sample.Ratios("1 5")}, &exact.Work{}) {
		t.Error("P42.1: semidefinite")
	}
}

func TestReduce(t *testing.T) {
	f := feedback("1 2 3 / 4 5 6 / 7 8 10 / 1 0 0", "1/2")
	f.Bounds[2].High = sample.Ratio("7")
	g, e := Reduce(f, []int{0, 3}, []int{1})
	if sample.MatrixText(g.Response) != "4 6 / 7 10" || sample.Text(g.Bounds[1].High) != "7" || len(g.Change) != 2 || e != api.OK || Valid(g) != api.OK {
		t.Errorf("P42.1: Reduce: %s %d", sample.MatrixText(g.Response), e)
	}
	for i, c := range []struct {
		monitors, correctors []int
		want                 api.Errno
	}{{[]int{4}, nil, api.ErrRange}, {[]int{1, 1}, nil, api.ErrOrder}, {nil, []int{-1}, api.ErrRange}, {nil, []int{2, 0}, api.ErrOrder}, {[]int{0, 1, 2, 3}, nil, api.ErrEmpty}, {nil, []int{0, 1, 2}, api.ErrEmpty}, {[]int{0, 1}, nil, api.ErrSingular}} {
		if _, e := Reduce(f, c.monitors, c.correctors); e != c.want {
			t.Errorf("P42.1: Reduce, row %d: %d", i, e)
		}
	}
}

func TestErrors(t *testing.T) {
	for i, c := range []struct {
		change func(f *api.Feedback)
		want   api.Errno
	}{
		{func(f *api.Feedback) {}, 0}, {func(f *api.Feedback) { f.Response.Rows = 3 }, api.ErrInvalid}, {func(f *api.Feedback) { f.Gain = api.Ratio{} }, api.ErrInvalid}, {func(f *api.Feedback) { f.Gain = sample.Ratio("3/2") }, api.ErrRange}, {func(f *api.Feedback) { f.Gain = sample.Ratio("-1/2") }, api.ErrRange},
		{func(f *api.Feedback) { f.Bounds = nil }, api.ErrRange}, {func(f *api.Feedback) { f.Change = f.Change[:1] }, api.ErrRange}, {func(f *api.Feedback) { f.Bounds = bounds("x", "1", 2) }, api.ErrInvalid}, {func(f *api.Feedback) { f.Change = bounds("1", "2", 2) }, api.ErrRange}, {func(f *api.Feedback) { f.Response = sample.Matrix("1 2 / 2 4") }, api.ErrSingular},
	} {
		f := feedback("1 0 / 0 1", "1/2")
		c.change(&f)
		if e := Valid(f); e != c.want {
			t.Errorf("P42.1: Valid, row %d: %d", i, e)
		}
	}
	f := feedback("1 0 / 0 1", "1/2")
	for i, c := range []struct {
		kicks    string
		measured []int
		want     api.Errno
	}{{"1", []int{1, 2}, api.ErrRange}, {"x x", []int{1}, api.ErrRange}, {"x 1", []int{1, 2}, api.ErrInvalid}, {"1 101", []int{1, 2}, api.ErrRange}, {"1 1", []int{1, 1000000001}, api.ErrRange}} {
		if _, e := Step(f, sample.Ratios(c.kicks), c.measured); e != c.want {
			t.Errorf("P42.1: Step, row %d: %d", i, e)
		}
	}
	for i, c := range []struct {
		truth       string
		disturbance []int
		kicks       string
		want        api.Errno
	}{{"x", nil, "", api.ErrInvalid}, {"1", nil, "1", api.ErrRange}, {"1", []int{1}, "", api.ErrRange}, {"1", []int{-1000000001}, "x", api.ErrRange}, {"1", []int{1}, "x", api.ErrInvalid}, {"1", []int{1000000000}, "1", api.ErrRange}, {"1", []int{1000000000}, "1/3", 0}} {
		if _, e := Model(sample.Matrix(c.truth), c.disturbance, sample.Ratios(c.kicks)); e != c.want {
			t.Errorf("P42.1: Model, row %d: %d", i, e)
		}
	}
	for i, c := range []struct {
		truth       string
		disturbance []int
		steps       int
		want        api.Errno
	}{{"x", nil, 0, api.ErrInvalid}, {"1 2", []int{1, 2}, 0, api.ErrRange}, {"1 0 / 0 1", []int{1}, 0, api.ErrRange}, {"1 0 / 0 1", []int{1, 2}, 21, api.ErrRange}, {"1 0 / 0 1", []int{1, 1000000001}, 0, api.ErrRange}} {
		if _, e := Run(f, sample.Matrix(c.truth), c.disturbance, c.steps); e != c.want {
			t.Errorf("P42.1: Run, row %d: %d", i, e)
		}
	}
	id := sample.Matrix("1 0 / 0 1")
	if CheckConvergence(f, id, sample.Ratios("1"), sample.Ratio("1/2")) || CheckConvergence(f, id, sample.Ratios("1 0"), sample.Ratio("1/2")) || CheckConvergence(f, id, sample.Ratios("1 1"), api.Ratio{}) || CheckConvergence(f, sample.Matrix("1"), sample.Ratios("1 1"), sample.Ratio("1/2")) {
		t.Error("P42.1: CheckConvergence")
	}
}
