package rampplan

import (
	"math/rand"
	"slices"
	"testing"

	"betatron/api"
	"betatron/ramp"
)

var example = api.Profile{From: 0, To: 10, Low: -100, High: 100, Slope: 4, Acceleration: 2}

func TestExamples(t *testing.T) {
	l, e := Least(example)
	if !slices.Equal(l, []int{0, 2, 6, 9, 10}) || e != api.OK || !Check(example, l) {
		t.Errorf("P26.1: Least: %v %d", l, e)
	}
	proof, e := Prove(example, 4)
	if e != api.OK || !CheckProof(example, 4, proof) {
		t.Errorf("P26.1: Prove: %d", e)
	}
	if _, e := Prove(example, 5); e != api.ErrConflict {
		t.Errorf("P26.1: Prove: %d", e)
	}
	down := api.Profile{From: 10, To: 0, Low: 0, High: 10, Slope: 4, Acceleration: 2}
	if l, _ := Least(down); !slices.Equal(l, []int{10, 8, 4, 1, 0}) {
		t.Errorf("P26.1: Least: %v", l)
	}
	still := api.Profile{From: 3, To: 3, Low: 0, High: 10, Slope: 4, Acceleration: 2}
	if l, _ := Least(still); !slices.Equal(l, []int{3}) {
		t.Errorf("P26.1: Least: %v", l)
	}
	both, e := Together([]api.Profile{example, still})
	if e != api.OK || !slices.Equal(both[0], []int{0, 2, 6, 9, 10}) || !slices.Equal(both[1], []int{3, 5, 6, 5, 3}) {
		t.Errorf("P26.1: Together: %v %d", both, e)
	}
	r, e := Ramp([]int{0, 5, 5, 0}, 500)
	s, _ := ramp.Format(r)
	if s != "0 500 0 10\n500 1000 5\n1000 1500 5 -10\n" || e != api.OK || ramp.Valid(r) != api.OK {
		t.Errorf("P26.1: Ramp: %q %d", s, e)
	}
	if r, _ := Ramp([]int{0, 0}, 7); len(r.Segments[0].Poly.Coeffs) != 0 || ramp.Valid(r) != api.OK {
		t.Error("P26.1: Ramp")
	}
}

// plans returns all plans with some ticks, by trying all changes.
func plans(p api.Profile, ticks int) [][]int {
	lists := [][]int{{p.From}}
	for range ticks {
		var next [][]int
		for _, l := range lists {
			for c := -p.Slope; c <= p.Slope; c++ {
				next = append(next, append(slices.Clone(l), l[len(l)-1]+c))
			}
		}
		lists = next
	}
	return slices.DeleteFunc(lists, func(l []int) bool { return !Check(p, l) })
}

func TestConsequences(t *testing.T) {
	r := rand.New(rand.NewSource(13))
	for range 60 {
		p := api.Profile{Low: -r.Intn(4), High: r.Intn(9), Slope: r.Intn(3) + 1, Acceleration: r.Intn(3) + 1}
		p.From, p.To = p.Low+r.Intn(p.High-p.Low+1), p.Low+r.Intn(p.High-p.Low+1)
		l, e := Least(p)
		if e != api.OK || !Check(p, l) {
			t.Fatalf("P26.2: %v: %v %d", p, l, e)
		}
		for ticks := 0; ticks < min(len(l), 6); ticks++ {
			all := plans(p, ticks)
			if ticks < len(l)-1 && len(all) > 0 {
				t.Fatalf("P26.2: %v: %v is shorter than %v", p, all[0], l)
			}
			if ticks == len(l)-1 {
				best := slices.MaxFunc(all, slices.Compare)
				if p.To < p.From {
					best = slices.MinFunc(all, slices.Compare)
				}
				if !slices.Equal(best, l) {
					t.Fatalf("P26.1: %v: %v and not %v", p, l, best)
				}
			}
		}
		for k := 1; k < len(l)+2; k++ {
			table, e := Prove(p, k)
			if e == api.OK && (k > len(l)-1 || !CheckProof(p, k, table)) || k >= len(l) && e != api.ErrConflict {
				t.Fatalf("P26.2: %v: Prove of %d: %d", p, k, e)
			}
		}
		opposite := api.Profile{From: -p.From, To: -p.To, Low: -p.High, High: -p.Low, Slope: p.Slope, Acceleration: p.Acceleration}
		backward := p
		backward.From, backward.To = p.To, p.From
		a, _ := Least(opposite)
		b, _ := Least(backward)
		if len(a) != len(l) || len(b) != len(l) {
			t.Fatalf("P26.2: %v: opposite and backward", p)
		}
	}
	wide := api.Profile{From: -1000, To: 1000, Low: -1000, High: 1000, Slope: 100, Acceleration: 100}
	if l, e := Least(wide); len(l) != 21 || e != api.OK {
		t.Errorf("P26.1: Least: %d %d", len(l), e)
	}
	slow := api.Profile{From: -1000, To: 1000, Low: -1000, High: 1000, Slope: 11, Acceleration: 1}
	if l, e := Least(slow); !Check(slow, l) || e != api.OK {
		t.Errorf("P26.1: Least: %d", e)
	}
}

func TestErrors(t *testing.T) {
	for i, change := range []func(p *api.Profile){
		func(p *api.Profile) { p.Low = -1001 }, func(p *api.Profile) { p.High = 1001 }, func(p *api.Profile) { p.From = 101 }, func(p *api.Profile) { p.To = -101 },
		func(p *api.Profile) { p.Slope = 0 }, func(p *api.Profile) { p.Slope = 101 }, func(p *api.Profile) { p.Acceleration = 0 }, func(p *api.Profile) { p.Acceleration = 101 },
	} {
		p := example
		change(&p)
		if _, e := Least(p); e != api.ErrRange {
			t.Errorf("P26.1: row %d: %d", i, e)
		}
		if Check(p, []int{p.From, p.To}) || CheckProof(p, 1, nil) {
			t.Errorf("P26.1: row %d: checks", i)
		}
	}
	far := api.Profile{From: -1000, To: 1000, Low: -1000, High: 1000, Slope: 1, Acceleration: 1}
	if _, e := Least(far); e != api.ErrTooLarge {
		t.Errorf("P26.1: Least: %d", e)
	}
	if _, e := Together(nil); e != api.ErrEmpty {
		t.Errorf("P26.1: Together: %d", e)
	}
	if _, e := Together(make([]api.Profile, 9)); e != api.ErrTooLarge {
		t.Errorf("P26.1: Together: %d", e)
	}
	for _, ticks := range []int{0, 201} {
		if _, e := Prove(example, ticks); e != api.ErrRange {
			t.Errorf("P26.1: Prove: %d", e)
		}
	}
	for i, c := range []struct {
		l    []int
		ms   int
		want api.Errno
	}{{[]int{1}, 0, api.ErrEmpty}, {make([]int, 42), 0, api.ErrTooLarge}, {[]int{1, 2}, 0, api.ErrRange}, {[]int{1, 1001}, 5, api.ErrRange}, {[]int{1, 2}, 100001, api.ErrRange}, {make([]int, 41), 100000, 0}} {
		if _, e := Ramp(c.l, c.ms); e != c.want {
			t.Errorf("P26.1: Ramp, row %d: %d", i, e)
		}
	}
}

func TestCheckProof(t *testing.T) {
	good, _ := Prove(example, 3)
	for i, c := range []struct {
		change func(l []api.Reachable) []api.Reachable
		want   bool
	}{
		{func(l []api.Reachable) []api.Reachable { return l }, true},
		{func(l []api.Reachable) []api.Reachable { return l[1:] }, false},
		{func(l []api.Reachable) []api.Reachable { return l[:len(l)-1] }, false},
		{func(l []api.Reachable) []api.Reachable { l[1].Tick = -1; return l }, false},
		{func(l []api.Reachable) []api.Reachable { l[1].Low, l[1].High = 5, 4; return l }, false},
		{func(l []api.Reachable) []api.Reachable { l[1], l[2] = l[2], l[1]; return l }, false},
		{func(l []api.Reachable) []api.Reachable { l[len(l)-1].High = 1 << 62; return l }, true},
		{func(l []api.Reachable) []api.Reachable { l[len(l)-2].Low = -1 << 63; return l }, true},
		{func(l []api.Reachable) []api.Reachable { l[0].High = 10; return l }, false},
		{func(l []api.Reachable) []api.Reachable {
			return append(l, api.Reachable{Tick: 200, Change: 4, Low: 1, High: 2})
		}, true},
		{func(l []api.Reachable) []api.Reachable {
			return append(l, api.Reachable{Tick: 201, Change: 4, Low: 1, High: 2})
		}, false},
	} {
		got := CheckProof(example, 3, c.change(slices.Clone(good)))
		if got != c.want {
			t.Errorf("P26.1: CheckProof, row %d", i)
		}
	}
}
