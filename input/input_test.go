package input

import (
	"math/rand"
	"slices"
	"testing"

	"betatron/api"
)

var example = api.Input{Name: "a", MaxAge: 10, Rising: 2, Falls: 1}

func sample(a, b bool, age int) api.Sample { return api.Sample{A: a, B: b, Age: age, Valid: true} }

func TestExamples(t *testing.T) {
	l := []api.Sample{sample(true, true, 0), sample(true, true, 5), sample(true, false, 0), sample(true, true, 11), sample(true, true, 10)}
	var raw []int
	for _, s := range l {
		state, e := Sample(example, s)
		if e != api.OK {
			t.Errorf("P43.1: Sample: %d", e)
		}
		raw = append(raw, state)
	}
	states, e := Run(example, l)
	if !slices.Equal(raw, []int{1, 1, 3, 3, 1}) || !slices.Equal(states, []int{3, 1, 3, 3, 3}) || e != api.OK {
		t.Errorf("P43.1: %v %v %d", raw, states, e)
	}
	if state, _ := Sample(example, api.Sample{A: true, B: true}); state != api.InputUnknown {
		t.Errorf("P43.1: a sample that is not valid: %d", state)
	}
	if state, _ := Sample(example, sample(false, false, 0)); state != api.InputNotOK {
		t.Errorf("P43.1: Sample: %d", state)
	}
	for _, c := range []struct {
		k      int
		states []int
		want   int
	}{{2, []int{1, 3, 1}, 1}, {3, []int{1, 3, 1}, 2}, {1, []int{3}, 2}} {
		if v, e := Vote(c.k, c.states); v != c.want || e != api.OK {
			t.Errorf("P43.1: Vote: %d %d", v, e)
		}
	}
}

func TestFilter(t *testing.T) {
	i := api.Input{Name: "a", Rising: 2, Falls: 3}
	for k, c := range []struct {
		raw  []int
		want api.FilterState
	}{
		{nil, api.FilterState{State: 3}}, {[]int{1}, api.FilterState{State: 3, Candidate: 1, Count: 1}}, {[]int{1, 3, 1}, api.FilterState{State: 3, Candidate: 1, Count: 1}}, {[]int{1, 1}, api.FilterState{State: 1}},
		{[]int{1, 2, 1}, api.FilterState{State: 3, Candidate: 1, Count: 1}}, {[]int{1, 1, 2, 3}, api.FilterState{State: 1, Candidate: 3, Count: 2}}, {[]int{1, 1, 2, 3, 2}, api.FilterState{State: 2}}, {[]int{1, 1, 2, 3, 1, 3}, api.FilterState{State: 1, Candidate: 3, Count: 1}},
		{[]int{2, 2, 2}, api.FilterState{State: 2}}, {[]int{2, 2, 2, 3, 1, 3}, api.FilterState{State: 2, Candidate: 3, Count: 1}}, {[]int{2, 2, 1, 2}, api.FilterState{State: 3, Candidate: 2, Count: 1}},
	} {
		f := api.FilterState{State: 3}
		for _, raw := range c.raw {
			var e api.Errno
			if f, e = Filter(i, f, raw); e != api.OK {
				t.Errorf("P43.1: row %d: %d", k, e)
			}
		}
		if f != c.want {
			t.Errorf("P43.1: row %d: %v", k, f)
		}
	}
}

func TestConsequences(t *testing.T) {
	r := rand.New(rand.NewSource(29))
	for range 500 {
		i := api.Input{Name: "a", MaxAge: 5, Rising: r.Intn(3) + 1, Falls: r.Intn(3) + 1}
		delay, _ := Delay(i)
		var l []api.Sample
		for range r.Intn(30) {
			l = append(l, api.Sample{A: r.Intn(4) > 0, B: r.Intn(4) > 0, Age: r.Intn(7), Valid: r.Intn(6) > 0})
		}
		states, _ := Run(i, l)
		good, bad := 0, 0
		for k, s := range l {
			if raw, _ := Sample(i, s); raw == api.InputOK {
				good, bad = good+1, 0
			} else {
				good, bad = 0, bad+1
			}
			becomes := states[k] == api.InputOK && (k == 0 || states[k-1] != api.InputOK)
			if becomes && good < i.Rising || bad >= delay && states[k] == api.InputOK {
				t.Fatalf("P43.2: %v: %v", i, states)
			}
		}
		votes := []int{r.Intn(3) + 1, r.Intn(3) + 1, r.Intn(3) + 1}
		before, _ := Vote(2, votes)
		more, _ := Vote(3, votes)
		votes[r.Intn(3)] = api.InputOK
		behind, _ := Vote(2, votes)
		if before == api.InputOK && behind != api.InputOK || before != api.InputOK && more == api.InputOK {
			t.Fatal("P43.2: votes")
		}
	}
	for _, stuck := range []int{1, 2} {
		if masked, e := Masked(example, stuck); masked || e != api.OK {
			t.Errorf("P43.2: Masked: %v %d", masked, e)
		}
	}
}

func TestErrors(t *testing.T) {
	for i, c := range []struct {
		input api.Input
		want  api.Errno
	}{
		{api.Input{Rising: 1, Falls: 1}, api.ErrSyntax}, {api.Input{Name: "A", Rising: 1, Falls: 1}, api.ErrSyntax}, {api.Input{Name: "a-", Rising: 1, Falls: 1}, api.ErrSyntax}, {api.Input{Name: "a23456789012345678901", Rising: 1, Falls: 1}, api.ErrSyntax},
		{api.Input{Name: "a", Rising: 0, Falls: 1}, api.ErrRange}, {api.Input{Name: "a", Rising: 1, Falls: 101}, api.ErrRange}, {api.Input{Name: "a", MaxAge: -1, Rising: 1, Falls: 1}, api.ErrRange}, {api.Input{Name: "a_1", MaxAge: 1 << 40, Rising: 100, Falls: 100}, 0},
	} {
		if _, e := Delay(c.input); e != c.want {
			t.Errorf("P43.1: row %d: %d", i, e)
		}
	}
	for i, c := range []struct {
		f    api.FilterState
		raw  int
		want api.Errno
	}{
		{api.FilterState{}, 0, api.ErrInvalid}, {api.FilterState{State: 4}, 1, api.ErrInvalid}, {api.FilterState{State: 1, Candidate: 1, Count: 1}, 1, api.ErrInvalid}, {api.FilterState{State: 3, Candidate: 1, Count: 2}, 1, api.ErrInvalid},
		{api.FilterState{State: 3, Candidate: 1}, 1, api.ErrInvalid}, {api.FilterState{State: 3, Count: 1}, 1, api.ErrInvalid}, {api.FilterState{State: 1, Candidate: 2, Count: 1}, 1, api.ErrInvalid}, {api.FilterState{State: 3, Candidate: 1, Count: 1}, 4, api.ErrRange}, {api.FilterState{State: 3}, 0, api.ErrRange},
	} {
		if _, e := Filter(example, c.f, c.raw); e != c.want {
			t.Errorf("P43.1: Filter, row %d: %d", i, e)
		}
	}
	if _, e := Sample(example, api.Sample{Age: -1}); e != api.ErrRange {
		t.Errorf("P43.1: Sample: %d", e)
	}
	if _, e := Run(example, make([]api.Sample, 1001)); e != api.ErrTooLarge {
		t.Errorf("P43.1: Run: %d", e)
	}
	if _, e := Run(example, []api.Sample{{}, {Age: 1<<40 + 1}}); e != api.ErrRange {
		t.Errorf("P43.1: Run: %d", e)
	}
	if _, e := Masked(example, 3); e != api.ErrRange {
		t.Errorf("P43.1: Masked: %d", e)
	}
	for i, c := range []struct {
		k      int
		states []int
		want   api.Errno
	}{{0, make([]int, 101), api.ErrTooLarge}, {0, []int{1}, api.ErrRange}, {2, []int{1}, api.ErrRange}, {1, []int{1, 4}, api.ErrRange}} {
		if _, e := Vote(c.k, c.states); e != c.want {
			t.Errorf("P43.1: Vote, row %d: %d", i, e)
		}
	}
}
