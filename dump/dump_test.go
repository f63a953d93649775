package dump

import (
	"math/rand"
	"slices"
	"testing"

	"betatron/api"
)

func chain(isAny bool) api.Chain {
	return api.Chain{Stages: []api.Stage{{Name: "a", Least: 10, Most: 20}, {Name: "b", Least: 5, Most: 50}, {Name: "c", After: []int{0, 1}, Any: isAny, Least: 1, Most: 2}}}
}

func TestExamples(t *testing.T) {
	for isAny, want := range map[bool]int{false: 52, true: 22} {
		c := chain(isAny)
		n, e := Worst(c)
		delays, l, _ := Critical(c)
		critical := []int{1, 2}
		if isAny {
			critical = []int{0, 2}
		}
		if n != want || e != api.OK || !slices.Equal(l, critical) || !slices.Equal(delays, []int{20, 50, 2}) {
			t.Errorf("P48.1: Worst: %d %d %v", n, e, l)
		}
		p, _ := Prove(c)
		if !Check(c, want, p) || Check(c, want-1, p) {
			t.Errorf("P48.1: Prove: %v", p)
		}
	}
	f := api.Filling{Harmonic: 10, Bunches: []int{0, 1, 2, 3, 4}}
	d := api.DumpSystem{Kickers: 3, Needed: 2, Retrigger: 700, Period: 2}
	for i, c := range []struct {
		failed []int
		out    int
	}{{nil, 90}, {[]int{1}, 90}, {[]int{0, 2}, 790}} {
		if out, e := Removal(chain(false), f, d, 0, c.failed); out != c.out || e != api.OK {
			t.Errorf("P48.1: Removal, row %d: %d %d", i, out, e)
		}
	}
	for failures, want := range map[int]int{0: 1, 1: 1, 2: 1, 3: 1} {
		if n, e := Certified(chain(false), f, d, failures); n != want || e != api.OK {
			t.Errorf("P48.1: Certified: %d %d", n, e)
		}
	}
	if l, e := Times(chain(false), []int{15, 5, 1}); !slices.Equal(l, []int{15, 5, 16}) || e != api.OK {
		t.Errorf("P48.1: Times: %v %d", l, e)
	}
}

func TestConsequences(t *testing.T) {
	r := rand.New(rand.NewSource(34))
	for range 300 {
		var c api.Chain
		for i := range r.Intn(6) + 1 {
			s := api.Stage{Name: "s" + string(rune('0'+i)), Any: r.Intn(2) == 0, Least: r.Intn(10)}
			s.Most = s.Least + r.Intn(2000)
			for k := range i {
				if r.Intn(3) == 0 {
					s.After = append(s.After, k)
				}
			}
			c.Stages = append(c.Stages, s)
		}
		n, _ := Worst(c)
		p, _ := Prove(c)
		_, l, _ := Critical(c)
		sum := 0
		for _, i := range l {
			sum += c.Stages[i].Most
		}
		if !Check(c, n, p) || Check(c, n-1, p) || sum != n || !slices.IsSorted(l) {
			t.Fatalf("P48.2: %v", c)
		}
		var delays []int
		for _, s := range c.Stages {
			delays = append(delays, s.Least+r.Intn(s.Most-s.Least+1))
		}
		if l, _ := Times(c, delays); l[len(l)-1] > n {
			t.Fatal("P48.2: later than Worst")
		}
		higher := slices.Clone(p)
		higher[r.Intn(len(p))] += r.Intn(3) - 1
		if Check(c, n-1, higher) {
			t.Fatal("P48.2: a bound that is too low")
		}
		f := api.Filling{Harmonic: r.Intn(20) + 2, Bunches: []int{r.Intn(2)}}
		d := api.DumpSystem{Kickers: 4, Needed: 3, Retrigger: r.Intn(5000), Period: r.Intn(30) + 1}
		request := r.Intn(1000)
		var failed []int
		for k := range 4 {
			if r.Intn(3) == 0 {
				failed = append(failed, k)
			}
		}
		out, e := Removal(c, f, d, request, failed)
		certified, _ := Certified(c, f, d, len(failed))
		more, _ := Certified(c, f, d, 4)
		if e != api.OK || out-request > 1000*certified || more < certified {
			t.Fatalf("P48.2: %d after %d is later than %d", out, request, certified)
		}
	}
}

func TestErrors(t *testing.T) {
	for i, c := range []struct {
		change func(c *api.Chain)
		want   api.Errno
	}{
		{func(c *api.Chain) { c.Stages = nil }, api.ErrEmpty}, {func(c *api.Chain) { c.Stages = make([]api.Stage, 31) }, api.ErrTooLarge}, {func(c *api.Chain) { c.Stages[1].Name = "" }, api.ErrSyntax}, {func(c *api.Chain) { c.Stages[1].Name = "a" }, api.ErrExists},
		{func(c *api.Chain) { c.Stages[1].After = []int{1} }, api.ErrRange}, {func(c *api.Chain) { c.Stages[2].After = []int{1, 0} }, api.ErrOrder}, {func(c *api.Chain) { c.Stages[2].After = []int{-1} }, api.ErrRange}, {func(c *api.Chain) { c.Stages[2].Least = 3 }, api.ErrRange},
		{func(c *api.Chain) { c.Stages[2].Least = -1 }, api.ErrRange}, {func(c *api.Chain) { c.Stages[2].Most = 1<<30 + 1 }, api.ErrRange}, {func(c *api.Chain) {}, 0},
	} {
		bad := chain(false)
		c.change(&bad)
		if _, e := Worst(bad); e != c.want {
			t.Errorf("P48.1: row %d: %d", i, e)
		}
	}
	c := chain(false)
	for _, delays := range [][]int{{1}, {9, 5, 1}, {10, 51, 1}} {
		if _, e := Times(c, delays); e != api.ErrRange {
			t.Errorf("P48.1: Times: %d", e)
		}
	}
	full := api.Filling{Harmonic: 1, Bunches: []int{0}}
	f := api.Filling{Harmonic: 4}
	d := api.DumpSystem{Kickers: 2, Needed: 1, Period: 1}
	for i, k := range []struct {
		f       api.Filling
		d       api.DumpSystem
		request int
		failed  []int
		want    api.Errno
	}{
		{api.Filling{}, d, 0, nil, api.ErrRange}, {full, api.DumpSystem{}, 0, nil, api.ErrRange}, {full, api.DumpSystem{Kickers: 2, Needed: 3, Period: 1}, 0, nil, api.ErrRange}, {full, api.DumpSystem{Kickers: 101, Needed: 3, Period: 1}, 0, nil, api.ErrRange}, {full, api.DumpSystem{Kickers: 2, Needed: 1, Period: 1000001}, 0, nil, api.ErrRange},
		{full, api.DumpSystem{Kickers: 2, Needed: 1, Period: 1, Retrigger: -1}, 0, nil, api.ErrRange}, {full, d, -1, nil, api.ErrRange}, {full, d, 0, []int{2}, api.ErrRange}, {full, d, 0, []int{1, 0}, api.ErrOrder}, {full, d, 0, nil, api.ErrNone}, {f, d, 1 << 40, []int{0, 1}, 0},
	} {
		if _, e := Removal(c, k.f, k.d, k.request, k.failed); e != k.want {
			t.Errorf("P48.1: Removal, row %d: %d", i, e)
		}
	}
	for failures, want := range map[int]api.Errno{-1: api.ErrRange, 3: api.ErrRange, 2: api.ErrNone} {
		if _, e := Certified(c, full, d, failures); e != want {
			t.Errorf("P48.1: Certified: %d", e)
		}
	}
	if Check(c, 100, []int{20, 50}) || Check(c, 100, []int{20, 50, 1<<40 + 1}) || Check(c, 100, []int{19, 50, 52}) || Check(c, 1<<50, []int{20, -1, 52}) || !Check(c, 60, []int{30, 51, 60}) {
		t.Error("P48.1: Check")
	}
}
