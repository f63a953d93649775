package clock

import (
	"math/rand"
	"slices"
	"testing"

	"betatron/api"
)

func TestExamples(t *testing.T) {
	l, e := Measured([]api.Exchange{{A: 0, Sent: 100, B: 1, Received: 140, Low: 10, High: 20}})
	if !slices.Equal(l, []api.Offset{{A: 0, B: 1, Most: -20}, {A: 1, B: 0, Most: 30}}) || e != api.OK {
		t.Errorf("P34.1: Measured: %v %d", l, e)
	}
	if s, e := Between(2, l, 1, 0); s != (api.Span{Low: 20, High: 30}) || e != api.OK {
		t.Errorf("P34.1: Between: %v %d", s, e)
	}
	if x, e := Solve(2, l); !slices.Equal(x, []int{-20, 0}) || e != api.OK || !Check(2, l, x) {
		t.Errorf("P34.1: Solve: %v %d", x, e)
	}
	bad := []api.Offset{{A: 0, B: 1, Most: -20}, {A: 1, B: 0, Most: 19}}
	if c, e := Refute(2, bad); !slices.Equal(c, []int{0, 1}) || e != api.OK || !CheckRefute(2, bad, c) {
		t.Errorf("P34.1: Refute: %v %d", c, e)
	}
	if s, e := Between(3, l, 2, 0); s != (api.Span{LowOpen: true, HighOpen: true}) || e != api.OK {
		t.Errorf("P34.1: Between: %v %d", s, e)
	}
	if s, _ := Between(3, l, 2, 2); s != (api.Span{}) {
		t.Errorf("P34.1: Between: %v", s)
	}
	// The shortest cycle comes first, then the lexicographically first one.
	long := []api.Offset{{A: 1, B: 0, Most: 5}, {A: 0, B: 1, Most: -6}, {A: 2, B: 2, Most: -1}, {A: 2, B: 2, Most: -5}}
	if c, _ := Refute(3, long); !slices.Equal(c, []int{2}) {
		t.Errorf("P34.1: Refute: %v", c)
	}
	if c, _ := Refute(3, long[:2]); !slices.Equal(c, []int{0, 1}) {
		t.Errorf("P34.1: Refute: %v", c)
	}
}

// firstNegative finds the standard negative cycle by trying all lists.
func firstNegative(n int, l []api.Offset, length int) []int {
	cycle := make([]int, length)
	for {
		if CheckRefute(n, l, cycle) {
			return cycle
		}
		k := length - 1
		for k >= 0 && cycle[k] == len(l)-1 {
			cycle[k] = 0
			k--
		}
		if k < 0 {
			return nil
		}
		cycle[k]++
	}
}

func TestConsequences(t *testing.T) {
	r := rand.New(rand.NewSource(21))
	for range 400 {
		n := r.Intn(4) + 1
		var l []api.Offset
		for range r.Intn(6) {
			l = append(l, api.Offset{A: r.Intn(n), B: r.Intn(n), Most: r.Intn(14) - 4})
		}
		x, e := Solve(n, l)
		c, f := Refute(n, l)
		if (e == api.ErrConflict) == (f == api.ErrSome) || e == api.OK && !Check(n, l, x) || f == api.OK && !CheckRefute(n, l, c) {
			t.Fatalf("P34.2: %v: %v %d %v %d", l, x, e, c, f)
		}
		if f == api.OK {
			for length := 1; length <= len(c); length++ {
				if first := firstNegative(n, l, length); first != nil && !slices.Equal(first, c) {
					t.Fatalf("P34.1: %v: %v and not %v", l, c, first)
				}
			}
			continue
		}
		for i := range n {
			more := slices.Clone(x)
			more[i]++
			if more[i] <= 0 && Check(n, l, more) {
				t.Fatalf("P34.1: %v could be greater", x)
			}
		}
		left, _ := Redundant(n, l)
		var kept []api.Offset
		for i, o := range l {
			if !slices.Contains(left, i) {
				kept = append(kept, o)
			}
		}
		for a := range n {
			for b := range n {
				s, _ := Between(n, l, a, b)
				back, _ := Between(n, l, b, a)
				same, _ := Between(n, kept, a, b)
				if back.High != -s.Low || back.HighOpen != s.LowOpen || same != s {
					t.Fatalf("P34.2: %v: %v %v %v", l, s, back, same)
				}
				if !s.HighOpen && a != b {
					// The end is attained, and nothing above it.
					if _, e := Solve(n, append(slices.Clone(l), api.Offset{A: b, B: a, Most: -s.High})); e != api.OK {
						t.Fatal("P34.2: an end that is not attained")
					}
					if _, e := Solve(n, append(slices.Clone(l), api.Offset{A: b, B: a, Most: -s.High - 1})); e != api.ErrConflict {
						t.Fatal("P34.2: beyond an end")
					}
				}
			}
		}
	}
}

func TestErrors(t *testing.T) {
	for i, c := range []struct {
		n    int
		l    []api.Offset
		want api.Errno
	}{{0, nil, api.ErrRange}, {13, nil, api.ErrRange}, {1, make([]api.Offset, 201), api.ErrTooLarge}, {1, []api.Offset{{A: 1}}, api.ErrRange}, {1, []api.Offset{{B: -1}}, api.ErrRange}, {1, []api.Offset{{Most: 1<<40 + 1}}, api.ErrRange}, {12, make([]api.Offset, 200), 0}} {
		if _, e := Solve(c.n, c.l); e != c.want {
			t.Errorf("P34.1: row %d: %d", i, e)
		}
	}
	bad := []api.Offset{{Most: -1}}
	if _, e := Between(1, bad, 0, 1); e != api.ErrRange {
		t.Errorf("P34.1: Between: %d", e)
	}
	if _, e := Between(1, bad, 0, 0); e != api.ErrConflict {
		t.Errorf("P34.1: Between: %d", e)
	}
	if _, e := Redundant(1, bad); e != api.ErrConflict {
		t.Errorf("P34.1: Redundant: %d", e)
	}
	if l, e := Redundant(2, []api.Offset{{A: 0, B: 1, Most: 5}, {A: 0, B: 1, Most: 4}, {A: 0, B: 1, Most: 4}, {A: 1, B: 1, Most: 0}}); !slices.Equal(l, []int{0, 1, 3}) || e != api.OK {
		t.Errorf("P34.1: Redundant: %v %d", l, e)
	}
	for i, x := range []api.Exchange{{A: 12}, {B: -1}, {Sent: -1}, {Received: 1<<39 + 1}, {Low: 2, High: 1}, {Low: -1}, {High: 1<<38 + 1}} {
		if _, e := Measured([]api.Exchange{x}); e != api.ErrRange {
			t.Errorf("P34.1: Measured, row %d: %d", i, e)
		}
	}
	if _, e := Measured(make([]api.Exchange, 101)); e != api.ErrTooLarge {
		t.Errorf("P34.1: Measured: %d", e)
	}
	two := []api.Offset{{A: 0, B: 1, Most: 1 << 40}}
	if Check(2, two, []int{0}) || Check(2, two, []int{1<<50 + 1, 1 << 50}) || !Check(2, two, []int{1 << 50, 1 << 50}) || CheckRefute(2, two, nil) || CheckRefute(2, two, []int{0}) || CheckRefute(2, two, []int{1}) || !CheckRefute(1, bad, slices.Repeat([]int{0}, 200)) || CheckRefute(1, bad, slices.Repeat([]int{0}, 201)) {
		t.Error("P34.1: checks")
	}
}
