package injection

import (
	"math/rand"
	"slices"
	"testing"

	"betatron/api"
)

func example(source int) api.InjectionPlan {
	return api.InjectionPlan{Ring: 10, Source: source, Target: api.Filling{Harmonic: 10, Bunches: []int{0, 1, 5, 6}}, Batch: 2, Spacing: 1, Rise: 1, Fall: 1, Gap: 3, Recovery: 2}
}

func TestExamples(t *testing.T) {
	if l, e := Window(example(4), 0); !slices.Equal(l, []int{0, 1, 2, 9}) || e != api.OK {
		t.Errorf("P35.1: Window: %v %d", l, e)
	}
	if _, e := Schedule(example(4), 0); e != api.ErrNone {
		t.Errorf("P35.1: Schedule: %d", e)
	}
	if l, e := Blocked(example(4)); !slices.Equal(l, []int{5}) || e != api.OK {
		t.Errorf("P35.1: Blocked: %v %d", l, e)
	}
	p := example(3)
	for now, want := range map[int][]api.Shot{0: {{First: 0, Period: 0}, {First: 5, Period: 15}}, 1: {{First: 5, Period: 15}, {First: 0, Period: 30}}} {
		l, e := Schedule(p, now)
		if !slices.Equal(l, want) || e != api.OK || !Check(p, now, l) {
			t.Errorf("P35.1: Schedule from %d: %v %d", now, l, e)
		}
		f, failed, e := Fill(p, l)
		if !slices.Equal(f.Bunches, p.Target.Bunches) || failed != -1 || e != api.OK {
			t.Errorf("P35.2: Fill: %v %d %d", f, failed, e)
		}
	}
	if l, e := Blocked(p); len(l) != 0 || e != api.OK {
		t.Errorf("P35.1: Blocked: %v %d", l, e)
	}
	f, failed, e := Fill(p, []api.Shot{{First: 3}, {First: 5}})
	if !slices.Equal(f.Bunches, []int{3, 4}) || failed != 1 || e != api.OK {
		t.Errorf("P35.1: Fill: %v %d %d", f, failed, e)
	}
	for first, want := range map[int]bool{5: true, 2: true, 1: false, 9: false} {
		if ok, e := Allowed(p, api.Filling{Harmonic: 10, Bunches: []int{0}}, first); ok != want || e != api.OK {
			t.Errorf("P35.1: Allowed at %d: %v %d", first, ok, e)
		}
	}
	p.Gap = 4
	if ok, _ := Allowed(p, api.Filling{Harmonic: 10, Bunches: []int{0, 1}}, 5); ok {
		t.Error("P35.1: Allowed without the gap")
	}
	none := example(3)
	none.Target.Bunches = nil
	if l, e := Schedule(none, 7); len(l) != 0 || e != api.OK || !Check(none, 7, nil) {
		t.Errorf("P35.1: an empty target: %v %d", l, e)
	}
}

func TestConsequences(t *testing.T) {
	r := rand.New(rand.NewSource(22))
	found := 0
	for range 400 {
		p := api.InjectionPlan{Ring: r.Intn(20) + 6, Source: r.Intn(4) + 1, Batch: r.Intn(2) + 1, Spacing: r.Intn(2) + 1, Rise: r.Intn(3), Fall: r.Intn(3), Gap: r.Intn(4), Recovery: r.Intn(30)}
		f := api.Filling{Harmonic: p.Ring}
		for range r.Intn(3) + 1 {
			for _, b := range buckets(p, r.Intn(p.Ring)) {
				f.Bunches = append(f.Bunches, b)
			}
		}
		slices.Sort(f.Bunches)
		p.Target = f
		p.Target.Bunches = slices.Compact(f.Bunches)
		if Valid(p) != api.OK {
			continue
		}
		now := r.Intn(20)
		l, e := Schedule(p, now)
		blocked, _ := Blocked(p)
		if len(blocked) == 0 && e != api.OK {
			t.Fatalf("P35.2: %v is not blocked", p)
		}
		if e != api.OK {
			continue
		}
		found++
		later, f2 := Schedule(p, now+1)
		if !Check(p, now, l) || f2 != api.OK || later[len(later)-1].Period < l[len(l)-1].Period {
			t.Fatalf("P35.2: %v %v", l, later)
		}
		turned := slices.Clone(l)
		turned[0].Period++
		if Check(p, now, turned) || Check(p, now, l[1:]) || Check(p, l[0].Period+1, l) {
			t.Fatalf("P35.1: Check of %v", turned)
		}
	}
	if found < 20 {
		t.Errorf("too few schedules: %d", found)
	}
}

func TestErrors(t *testing.T) {
	for i, c := range []struct {
		change func(p *api.InjectionPlan)
		want   api.Errno
	}{
		{func(p *api.InjectionPlan) {}, 0}, {func(p *api.InjectionPlan) { p.Ring = 0 }, api.ErrRange}, {func(p *api.InjectionPlan) { p.Source = 2001 }, api.ErrRange}, {func(p *api.InjectionPlan) { p.Batch = 101 }, api.ErrRange},
		{func(p *api.InjectionPlan) { p.Spacing = 0 }, api.ErrRange}, {func(p *api.InjectionPlan) { p.Rise = -1 }, api.ErrRange}, {func(p *api.InjectionPlan) { p.Fall = 2001 }, api.ErrRange}, {func(p *api.InjectionPlan) { p.Gap = 2001 }, api.ErrRange},
		{func(p *api.InjectionPlan) { p.Recovery = 1<<30 + 1 }, api.ErrRange}, {func(p *api.InjectionPlan) { p.Target.Bunches = []int{1, 0}; p.Target.Harmonic = 9 }, api.ErrOrder}, {func(p *api.InjectionPlan) { p.Ring = 11 }, api.ErrConflict},
		{func(p *api.InjectionPlan) { p.Spacing = 10 }, api.ErrConflict}, {func(p *api.InjectionPlan) { p.Batch = 3 }, api.ErrInvalid}, {func(p *api.InjectionPlan) { p.Target.Bunches = []int{0, 1, 5} }, api.ErrInvalid},
		{func(p *api.InjectionPlan) { p.Target.Bunches = []int{0, 1, 2, 3, 4, 5, 6}; p.Batch = 1 }, api.ErrTooLarge},
	} {
		p := example(3)
		c.change(&p)
		if e := Valid(p); e != c.want {
			t.Errorf("P35.1: row %d: %d", i, e)
		}
	}
	p := example(3)
	if _, e := Window(p, 10); e != api.ErrRange {
		t.Errorf("P35.1: Window: %d", e)
	}
	if _, e := Allowed(p, api.Filling{}, 99); e != api.ErrRange {
		t.Errorf("P35.1: Allowed: %d", e)
	}
	if _, e := Allowed(p, api.Filling{Harmonic: 9}, 99); e != api.ErrConflict {
		t.Errorf("P35.1: Allowed: %d", e)
	}
	if _, _, e := Fill(p, make([]api.Shot, 21)); e != api.ErrTooLarge {
		t.Errorf("P35.1: Fill: %d", e)
	}
	if _, _, e := Fill(p, []api.Shot{{First: 0}, {First: 0}, {First: -1}}); e != api.ErrRange {
		t.Errorf("P35.1: Fill: %d", e)
	}
	if _, e := Schedule(p, 1<<30+1); e != api.ErrRange || Check(p, -1, nil) {
		t.Errorf("P35.1: Schedule: %d", e)
	}
}
