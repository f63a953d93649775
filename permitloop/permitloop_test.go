package permitloop

import (
	"math/rand"
	"slices"
	"testing"

	"betatron/api"
)

func network(n int) api.Network {
	net := api.Network{Detect: 5}
	for i := range n {
		net.Stations = append(net.Stations, api.Station{Name: "s" + string(rune('0'+i)), Delay: 10, Fibre: 100})
	}
	return net
}

func TestExamples(t *testing.T) {
	n := network(3)
	for i, c := range []struct {
		f    api.Failure
		want int
	}{{api.Failure{}, 115}, {api.Failure{Kind: 1, Loop: 2, Station: 1}, 225}, {api.Failure{Kind: 1, Loop: 1, Station: 1}, 115}, {api.Failure{Kind: 4, Loop: 2}, 225}, {api.Failure{Kind: 2, Loop: 2, Station: 0}, 0}, {api.Failure{Kind: 3, Station: 0}, 0}, {api.Failure{Kind: 1, Loop: 2, Station: 0}, 115}} {
		if got, e := Latency(n, 1, c.f); got != c.want || e != api.OK {
			t.Errorf("P46.1: Latency, row %d: %d %d", i, got, e)
		}
	}
	time, at, f, e := Worst(n)
	if time != 335 || at != 0 || f != (api.Failure{}) || e != api.OK {
		t.Errorf("P46.1: Worst: %d %d %v %d", time, at, f, e)
	}
	uneven := network(3)
	uneven.Stations[0].Delay, uneven.Stations[2].Fibre = 1, 7
	if time, _ := Latency(uneven, 2, api.Failure{}); time != 22 {
		t.Errorf("P46.1: Latency: %d", time)
	}
	if time, _ := Latency(uneven, 2, api.Failure{Kind: 4, Loop: 1}); time != 225 {
		t.Errorf("P46.1: Latency: %d", time)
	}
	if l, e := Failures(n); len(l) != 17 || l[0] != (api.Failure{Kind: 1, Loop: 1}) || l[12] != (api.Failure{Kind: 3}) || l[16] != (api.Failure{Kind: 4, Loop: 2}) || e != api.OK {
		t.Errorf("P46.1: Failures: %v %d", l, e)
	}
	a, b, e := Loops(n, []bool{true, false, true}, api.Failure{Kind: 1, Loop: 1, Station: 1})
	if !a || b || e != api.OK {
		t.Errorf("P46.1: Loops: %v %v %d", a, b, e)
	}
}

func TestConsequences(t *testing.T) {
	n := network(3)
	all, _ := Failures(n)
	worst, _, _, _ := Worst(n)
	for station := range 3 {
		for _, f := range append(all, api.Failure{}) {
			a, b, _ := Loops(n, without(n, station), f)
			if time, _ := Latency(n, station, f); a && b || time > worst {
				t.Fatalf("P46.2: %v", f)
			}
		}
		pairs, _ := Double(n, station)
		for i, first := range all {
			for _, second := range all[i+1:] {
				isSafe, _ := Safe(n, []int{station}, []api.Failure{first, second})
				if isSafe == slices.Contains(pairs, api.FailurePair{First: first, Second: second}) {
					t.Fatalf("P46.2: %v and %v", first, second)
				}
			}
		}
		if len(pairs) != 4 {
			t.Errorf("P46.1: Double: %v", pairs)
		}
	}
	r := rand.New(rand.NewSource(32))
	s := api.LoopState{Network: n, Local: without(n), LatchA: true, LatchB: true}
	for range 500 {
		a := api.LoopStep{Kind: r.Intn(5) + 1, Station: r.Intn(3)}
		if a.Kind == 3 {
			a.Failure = all[r.Intn(len(all))]
		}
		next, e := Do(s, a)
		if e == api.ErrState && a.Kind == 5 {
			continue
		}
		cleared := s.LatchA && !next.LatchA || s.LatchB && !next.LatchB
		if e != api.OK || cleared && (a.Kind != 5 || slices.Contains(s.Local, false)) || stateError(next) != api.OK {
			t.Fatalf("P46.2: %v: %v %d", a, next, e)
		}
		s = next
	}
}

func TestErrors(t *testing.T) {
	for i, c := range []struct {
		change func(n *api.Network)
		want   api.Errno
	}{
		{func(n *api.Network) { n.Stations = nil }, api.ErrEmpty}, {func(n *api.Network) { n.Stations = make([]api.Station, 13) }, api.ErrTooLarge}, {func(n *api.Network) { n.Stations[1].Name = "" }, api.ErrSyntax}, {func(n *api.Network) { n.Stations[1].Name = "s0" }, api.ErrExists},
		{func(n *api.Network) { n.Stations[1].Delay = -1 }, api.ErrRange}, {func(n *api.Network) { n.Stations[1].Fibre = 1000001 }, api.ErrRange}, {func(n *api.Network) { n.Detect = -1 }, api.ErrRange}, {func(n *api.Network) {}, 0},
	} {
		n := network(2)
		c.change(&n)
		if _, _, _, e := Worst(n); e != c.want {
			t.Errorf("P46.1: row %d: %d", i, e)
		}
	}
	n := network(2)
	for i, f := range []api.Failure{{Loop: 1}, {Station: 1}, {Kind: 1}, {Kind: 1, Loop: 3}, {Kind: 2, Loop: 1, Station: 2}, {Kind: 3, Loop: 1}, {Kind: 3, Station: -1}, {Kind: 4}, {Kind: 4, Loop: 1, Station: 1}, {Kind: 5}} {
		if _, _, e := Loops(n, []bool{true, true}, f); e != api.ErrInvalid {
			t.Errorf("P46.1: Loops, row %d: %d", i, e)
		}
		if _, e := Safe(n, nil, []api.Failure{{}, f}); e != api.ErrInvalid {
			t.Errorf("P46.1: Safe, row %d: %d", i, e)
		}
	}
	if _, _, e := Loops(n, []bool{true}, api.Failure{Kind: 9}); e != api.ErrRange {
		t.Errorf("P46.1: Loops: %d", e)
	}
	if _, e := Latency(n, 2, api.Failure{Kind: 9}); e != api.ErrRange {
		t.Errorf("P46.1: Latency: %d", e)
	}
	if _, e := Double(n, -1); e != api.ErrRange {
		t.Errorf("P46.1: Double: %d", e)
	}
	if _, e := Safe(n, []int{2}, make([]api.Failure, 7)); e != api.ErrRange {
		t.Errorf("P46.1: Safe: %d", e)
	}
	if _, e := Safe(n, nil, make([]api.Failure, 7)); e != api.ErrTooLarge {
		t.Errorf("P46.1: Safe: %d", e)
	}
	good := api.LoopState{Network: n, Local: []bool{true, true}}
	open := api.LoopState{Network: n, Local: []bool{true, false}, LatchA: true}
	for i, c := range []struct {
		s    api.LoopState
		a    api.LoopStep
		want api.Errno
	}{
		{api.LoopState{}, api.LoopStep{}, api.ErrEmpty}, {api.LoopState{Network: n}, api.LoopStep{}, api.ErrRange}, {open, api.LoopStep{Kind: 1}, api.ErrInvalid}, {good, api.LoopStep{}, api.ErrInvalid}, {good, api.LoopStep{Kind: 6}, api.ErrInvalid}, {good, api.LoopStep{Kind: 1, Station: 2}, api.ErrRange},
		{good, api.LoopStep{Kind: 3, Failure: api.Failure{Kind: 9}}, api.ErrInvalid}, {api.LoopState{Network: n, Local: []bool{true, false}, LatchA: true, LatchB: true}, api.LoopStep{Kind: 5}, api.ErrState}, {good, api.LoopStep{Kind: 5}, 0},
		{api.LoopState{Network: n, Local: []bool{true, true}, Failure: api.Failure{Kind: 3}, LatchA: true, LatchB: true}, api.LoopStep{Kind: 5}, api.ErrState},
	} {
		if _, e := Do(c.s, c.a); e != c.want {
			t.Errorf("P46.1: Do, row %d: %d", i, e)
		}
	}
	next, _ := Do(good, api.LoopStep{Kind: 1, Station: 1})
	if next.Local[1] || !next.LatchA || !next.LatchB || !good.Local[1] {
		t.Errorf("P46.1: Do: %v", next)
	}
}
