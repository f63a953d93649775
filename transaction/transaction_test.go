package transaction

import (
	"math/rand"
	"slices"
	"testing"

	"betatron/api"
)

func walk(t *testing.T, n int, steps ...int) api.Transaction {
	t.Helper()
	s, _ := Start(n)
	for i, step := range steps {
		var e api.Errno
		if s, e = Do(s, step); e != api.OK {
			t.Fatalf("step %d (%d): %d", i, step, e)
		}
	}
	return s
}

func TestExamples(t *testing.T) {
	if s := walk(t, 1, 0, 2, 0, 2, 81, 7); s.Phase != 4 || !s.Event || s.Parties[0].State != 4 {
		t.Errorf("P38.1: %v", s)
	}
	s, e := Start(1)
	if l := Steps(s); !slices.Equal(l, []int{0, 1, 4, 8, 80}) || e != api.OK {
		t.Errorf("P38.1: Steps: %v", l)
	}
	refused := walk(t, 2, 18, 0, 2)
	if refused.Phase != 0 || !slices.Contains(Steps(refused), 80) {
		t.Errorf("P38.1: %v", refused)
	}
}

// Each row of the table, from a state to the one behind the step.
func TestSteps(t *testing.T) {
	for i, c := range []struct {
		phase    int
		from     api.Party
		step     int
		to       api.Party
		behind   int
		possible bool
	}{
		{0, api.Party{State: 1, Inbox: 1}, 0, api.Party{State: 1, Outbox: 1}, 0, true},
		{0, api.Party{State: 1, Inbox: 1, Outbox: 2}, 0, api.Party{State: 1, Outbox: 2}, 0, true},
		{1, api.Party{State: 2, Inbox: 2, Outbox: 2}, 0, api.Party{State: 2, Outbox: 3}, 1, true},
		{1, api.Party{State: 2, Inbox: 2, Outbox: 4}, 0, api.Party{State: 2, Outbox: 4}, 1, true},
		{2, api.Party{State: 1, Inbox: 3, Outbox: 2}, 0, api.Party{State: 3, Outbox: 2}, 2, true},
		{2, api.Party{State: 2, Inbox: 3, Outbox: 2}, 0, api.Party{State: 2, Outbox: 2}, 2, true},
		{2, api.Party{State: 5, Inbox: 3}, 0, api.Party{}, 0, false}, {2, api.Party{State: 5, Inbox: 3}, 1, api.Party{State: 5}, 2, true},
		{0, api.Party{State: 1, Outbox: 1}, 2, api.Party{State: 1, Inbox: 2, Outbox: 2}, 1, true}, {2, api.Party{State: 1, Outbox: 1}, 2, api.Party{State: 1, Inbox: 3, Outbox: 2}, 2, true},
		{3, api.Party{State: 1, Outbox: 1}, 2, api.Party{State: 1, Outbox: 2}, 3, true}, {1, api.Party{State: 2, Outbox: 3}, 2, api.Party{State: 2, Outbox: 4}, 3, true}, {2, api.Party{State: 2, Outbox: 3}, 2, api.Party{State: 2, Outbox: 4}, 2, true},
		{0, api.Party{State: 1, Outbox: 1}, 3, api.Party{State: 1}, 0, true}, {1, api.Party{State: 2, Outbox: 3}, 3, api.Party{State: 2, Outbox: 2}, 1, true}, {1, api.Party{Outbox: 2}, 3, api.Party{}, 0, false},
		{0, api.Party{State: 2}, 4, api.Party{State: 7}, 0, true}, {0, api.Party{State: 3}, 4, api.Party{}, 0, false}, {0, api.Party{State: 6}, 5, api.Party{State: 1}, 0, true}, {0, api.Party{State: 1}, 5, api.Party{}, 0, false},
		{0, api.Party{State: 1}, 6, api.Party{State: 1, Outbox: 1}, 0, true}, {4, api.Party{State: 4, Outbox: 2}, 6, api.Party{State: 4, Outbox: 3}, 4, true}, {0, api.Party{State: 1, Outbox: 2}, 6, api.Party{}, 0, false}, {0, api.Party{State: 2, Outbox: 0}, 6, api.Party{}, 0, false},
		{4, api.Party{State: 2}, 7, api.Party{State: 4}, 4, true}, {3, api.Party{State: 2}, 7, api.Party{}, 0, false}, {0, api.Party{Inbox: 1}, 8, api.Party{State: 3}, 0, true}, {0, api.Party{State: 1, Inbox: 1}, 8, api.Party{}, 0, false},
		{0, api.Party{}, 9, api.Party{}, 0, false}, {0, api.Party{}, 10, api.Party{}, 0, false}, {0, api.Party{}, -1, api.Party{}, 0, false}, {0, api.Party{State: 1}, 80, api.Party{State: 1, Inbox: 3}, 2, true}, {1, api.Party{}, 80, api.Party{}, 0, false},
		{3, api.Party{State: 2}, 81, api.Party{State: 2}, 4, true}, {2, api.Party{}, 81, api.Party{}, 0, false}, {0, api.Party{Outbox: 1}, 82, api.Party{Inbox: 1, Outbox: 1}, 0, true}, {0, api.Party{Outbox: 2}, 82, api.Party{}, 0, false},
		{1, api.Party{Outbox: 3}, 82, api.Party{Inbox: 2, Outbox: 3}, 1, true}, {1, api.Party{Outbox: 4}, 82, api.Party{}, 0, false}, {2, api.Party{Outbox: 4}, 82, api.Party{Inbox: 3, Outbox: 4}, 2, true}, {2, api.Party{Inbox: 3}, 82, api.Party{}, 0, false},
		{3, api.Party{}, 82, api.Party{}, 0, false}, {0, api.Party{}, 83, api.Party{}, 0, false}, {2, api.Party{}, 90, api.Party{}, 0, false},
	} {
		s := api.Transaction{Phase: c.phase, Event: c.phase == 4, Parties: []api.Party{c.from}}
		next, e := Do(s, c.step)
		if !c.possible {
			if e != api.ErrState || slices.Contains(Steps(s), c.step) {
				t.Errorf("P38.1: row %d: %v %d", i, next, e)
			}
			continue
		}
		if e != api.OK || next.Phase != c.behind || next.Parties[0] != c.to || !slices.Contains(Steps(s), c.step) || Valid(next) != api.OK || s.Parties[0] != c.from {
			t.Errorf("P38.1: row %d: %v %d", i, next, e)
		}
	}
}

func TestSets(t *testing.T) {
	for n := 1; n <= 2; n++ {
		l, e := Explore(n)
		if e != api.OK || !CheckSet(n, l) {
			t.Fatalf("P38.2: Explore(%d): %d", n, e)
		}
		for _, i := range []int{0, len(l) / 3, len(l) - 1} {
			if CheckSet(n, slices.Delete(slices.Clone(l), i, i+1)) {
				t.Errorf("P38.2: a set without %d", l[i])
			}
		}
		for _, k := range l {
			s, _ := State(n, k)
			back, _ := Number(s)
			hasApplied := slices.ContainsFunc(s.Parties, func(p api.Party) bool { return p.State == applied })
			if back != k || Bad(s) || hasApplied && slices.ContainsFunc(s.Parties, func(p api.Party) bool { return p.State < 2 || p.State == dropped }) {
				t.Fatalf("P38.2: state %d", k)
			}
		}
	}
	bad := api.Transaction{Parties: []api.Party{{State: 4}, {State: 3}}}
	k, _ := Number(bad)
	if !Bad(bad) || CheckSet(2, []int{k}) || CheckSet(3, nil) || CheckSet(1, nil) || Bad(api.Transaction{}) || Bad(api.Transaction{Phase: 9, Parties: bad.Parties}) {
		t.Error("P38.1: bad states")
	}
}

func TestRuns(t *testing.T) {
	r := rand.New(rand.NewSource(24))
	for range 300 {
		n := r.Intn(8) + 1
		var choices []int
		for range r.Intn(200) {
			choices = append(choices, r.Intn(1000)-500)
		}
		s, steps, e := Run(n, choices)
		if e != api.OK || Bad(s) || len(steps) != len(choices) && len(Steps(s)) > 0 {
			t.Fatalf("P38.2: %v %d", s, e)
		}
		again, _ := Start(n)
		for _, step := range steps {
			again, _ = Do(again, step)
		}
		k, _ := Number(s)
		back, f := State(n, k)
		if !slices.Equal(again.Parties, s.Parties) || !slices.Equal(back.Parties, s.Parties) || back.Phase != s.Phase || f != api.OK {
			t.Fatalf("P38.2: %v and %v", again, back)
		}
	}
	if s, steps, _ := Run(1, []int{-1}); !slices.Equal(steps, []int{80}) || s.Phase != 2 {
		t.Errorf("P38.1: Run: %v", steps)
	}
}

func TestErrors(t *testing.T) {
	for _, n := range []int{0, 9} {
		if _, e := Start(n); e != api.ErrRange {
			t.Errorf("P38.1: Start: %d", e)
		}
		if _, _, e := Run(n, make([]int, 201)); e != api.ErrRange {
			t.Errorf("P38.1: Run: %d", e)
		}
		if _, e := State(n, 0); e != api.ErrRange {
			t.Errorf("P38.1: State: %d", e)
		}
		if _, e := Explore(n); e != api.ErrRange {
			t.Errorf("P38.1: Explore: %d", e)
		}
	}
	if _, _, e := Run(1, make([]int, 201)); e != api.ErrTooLarge {
		t.Errorf("P38.1: Run: %d", e)
	}
	for i, c := range []struct {
		t    api.Transaction
		want api.Errno
	}{
		{api.Transaction{Phase: 9}, api.ErrRange}, {api.Transaction{Parties: make([]api.Party, 9)}, api.ErrRange}, {api.Transaction{Phase: 5, Parties: make([]api.Party, 1)}, api.ErrInvalid}, {api.Transaction{Phase: 4, Parties: make([]api.Party, 1)}, api.ErrInvalid},
		{api.Transaction{Event: true, Parties: make([]api.Party, 1)}, api.ErrInvalid}, {api.Transaction{Parties: []api.Party{{State: 8}}}, api.ErrInvalid}, {api.Transaction{Parties: []api.Party{{Inbox: 4}}}, api.ErrInvalid}, {api.Transaction{Parties: []api.Party{{Outbox: 5}}}, api.ErrInvalid},
	} {
		if _, e := Do(c.t, 0); e != c.want || Steps(c.t) != nil {
			t.Errorf("P38.1: row %d: %d", i, e)
		}
		if _, e := Number(c.t); e != c.want {
			t.Errorf("P38.1: Number, row %d: %d", i, e)
		}
	}
	for n, number := range map[int]int{1: 800, 2: 128000, 8: -1} {
		if _, e := State(n, number); e != api.ErrRange {
			t.Errorf("P38.1: State: %d", e)
		}
		if _, e := State(n, max(0, number-1)); e != api.OK {
			t.Errorf("P38.1: State: %d", e)
		}
	}
}
