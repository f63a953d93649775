package task

import (
	"math/rand"
	"slices"
	"testing"

	"betatron/api"
)

var example = []api.Task{{Name: "a", Period: 5, Cost: 2, Deadline: 5}, {Name: "b", Period: 7, Cost: 2, Deadline: 7}, {Name: "c", Period: 20, Cost: 3, Deadline: 20}}

func TestExamples(t *testing.T) {
	for i, want := range []int{2, 4, 13} {
		if n, e := Response(example, i); n != want || e != api.OK || !Check(example, i, want) || Check(example, i, want-1) {
			t.Errorf("P36.1: Response of %d: %d %d", i, n, e)
		}
	}
	slots, e := Simulate(example, []int{0, 0, 0}, 15)
	want := []api.Slot{{Task: 0, From: 0, To: 2}, {Task: 1, From: 2, To: 4}, {Task: 2, From: 4, To: 5}, {Task: 0, From: 5, To: 7}, {Task: 1, From: 7, To: 9}, {Task: 2, From: 9, To: 10}, {Task: 0, From: 10, To: 12}, {Task: 2, From: 12, To: 13}, {Task: 1, From: 14, To: 15}}
	if !slices.Equal(slots, want) || e != api.OK {
		t.Errorf("P36.1: Simulate: %v %d", slots, e)
	}
	jobs, e := Responses(example, []int{0, 0, 0}, 13)
	if len(jobs) != 6 || jobs[5] != (api.Job{Task: 2, Release: 0, Finish: 13}) || e != api.OK {
		t.Errorf("P36.1: Responses: %v %d", jobs, e)
	}
	for i, want := range map[int]int{0: 0, 2: 3} {
		if n, e := Slack(example, i); n != want || e != api.OK {
			t.Errorf("P36.1: Slack of %d: %d %d", i, n, e)
		}
	}
	if _, e := Misses(example); e != api.ErrNone {
		t.Errorf("P36.1: Misses: %d", e)
	}
	if l, e := Order([]api.Task{example[2], example[1], example[0]}); !slices.Equal(l, []int{2, 1, 0}) || e != api.OK {
		t.Errorf("P36.1: Order: %v %d", l, e)
	}
	// Neighbouring jobs of one task are one interval.
	if l, _ := Simulate([]api.Task{{Name: "a", Period: 2, Cost: 2, Deadline: 2}}, []int{1}, 7); !slices.Equal(l, []api.Slot{{Task: 0, From: 1, To: 7}}) {
		t.Errorf("P36.1: Simulate: %v", l)
	}
}

func permutations(n int, f func(order []int)) {
	order := make([]int, n)
	var place func(k int)
	place = func(k int) {
		if k == n {
			f(order)
			return
		}
		for i := range n {
			if !slices.Contains(order[:k], i) {
				order[k] = i
				place(k + 1)
			}
		}
	}
	place(0)
}

func TestConsequences(t *testing.T) {
	r := rand.New(rand.NewSource(23))
	for range 200 {
		var l []api.Task
		for i := range r.Intn(3) + 1 {
			period := r.Intn(12) + 1
			cost := r.Intn(period)/2 + 1
			l = append(l, api.Task{Name: string(rune('a' + i)), Period: period, Cost: cost, Deadline: cost + r.Intn(period-cost+1)})
		}
		missing, e := Misses(l)
		if e == api.OK {
			if _, f := Response(l, missing); f != api.ErrTimeout {
				t.Fatalf("P36.1: Misses: %d", missing)
			}
		} else {
			offsets := make([]int, len(l))
			for round := range 3 {
				jobs, _ := Responses(l, offsets, 300)
				for _, job := range jobs {
					n, _ := Response(l, job.Task)
					if job.Finish-job.Release > n || round == 0 && job.Release == 0 && job.Finish != n {
						t.Fatalf("P36.2: %v: %v", l, job)
					}
				}
				for i := range offsets {
					offsets[i] = r.Intn(20)
				}
			}
			for i := range l {
				slack, e := Slack(l, i)
				more := slices.Clone(l)
				more[i].Cost += slack
				_, fine := Misses(more)
				more[i].Cost++
				_, over := Misses(more)
				if e != api.OK || fine != api.ErrNone || over == api.ErrNone {
					t.Fatalf("P36.1: Slack of %d in %v: %d", i, l, slack)
				}
			}
		}
		_, f := Order(l)
		possible := false
		permutations(len(l), func(order []int) {
			var sorted []api.Task
			for _, i := range order {
				sorted = append(sorted, l[i])
			}
			_, e := Misses(sorted)
			possible = possible || e == api.ErrNone
		})
		if possible != (f == api.OK) {
			t.Fatalf("P36.2: Order of %v: %d", l, f)
		}
	}
}

func TestErrors(t *testing.T) {
	for i, c := range []struct {
		change func(l []api.Task) []api.Task
		want   api.Errno
	}{
		{func(l []api.Task) []api.Task { return nil }, api.ErrEmpty}, {func(l []api.Task) []api.Task { return slices.Repeat(l, 3) }, api.ErrTooLarge}, {func(l []api.Task) []api.Task { l[1].Name = ""; return l }, api.ErrSyntax},
		{func(l []api.Task) []api.Task { l[1].Name = "a"; l[1].Cost = 0; return l }, api.ErrExists}, {func(l []api.Task) []api.Task { l[1].Cost = 0; return l }, api.ErrRange}, {func(l []api.Task) []api.Task { l[1].Cost = 8; return l }, api.ErrRange},
		{func(l []api.Task) []api.Task { l[1].Deadline = 1; return l }, api.ErrRange}, {func(l []api.Task) []api.Task { l[1].Deadline = 8; return l }, api.ErrRange}, {func(l []api.Task) []api.Task { l[1].Period = 1000001; return l }, api.ErrRange},
	} {
		if _, e := Order(c.change(slices.Clone(example))); e != c.want {
			t.Errorf("P36.1: row %d: %d", i, e)
		}
	}
	if _, e := Response(example, 3); e != api.ErrRange {
		t.Errorf("P36.1: Response: %d", e)
	}
	if _, e := Slack(example, -1); e != api.ErrRange {
		t.Errorf("P36.1: Slack: %d", e)
	}
	tight := []api.Task{{Name: "a", Period: 2, Cost: 1, Deadline: 2}, {Name: "b", Period: 2, Cost: 2, Deadline: 2}}
	if _, e := Slack(tight, 0); e != api.ErrTimeout {
		t.Errorf("P36.1: Slack: %d", e)
	}
	if i, e := Misses(tight); i != 1 || e != api.OK {
		t.Errorf("P36.1: Misses: %d %d", i, e)
	}
	for i, c := range []struct {
		offsets []int
		until   int
	}{{[]int{0, 0}, 0}, {[]int{0, 0, -1}, 0}, {[]int{0, 0, 1000001}, 0}, {[]int{0, 0, 0}, -1}, {[]int{0, 0, 0}, 2001}} {
		if _, e := Simulate(example, c.offsets, c.until); e != api.ErrRange {
			t.Errorf("P36.1: Simulate, row %d: %d", i, e)
		}
	}
	if Check(example, 3, 1) || Check(nil, 0, 1) || Check(example, 0, 0) || Check(example, 0, 6) {
		t.Error("P36.1: Check")
	}
}
