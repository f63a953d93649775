package protection

import (
	"math/rand"
	"slices"
	"testing"

	"betatron/api"
	"betatron/permitlogic"
	"betatron/permitloop"
)

func logic(text string) api.Logic {
	l, _, _ := permitlogic.Parse(text)
	return l
}

// example is the configuration of the chapter's example.
func example() api.Protection {
	return api.Protection{
		Inputs: []api.Input{{Name: "a", MaxAge: 5, Rising: 1, Falls: 2}}, Owner: []int{0},
		Masks: api.MaskTable{Maskable: []bool{true}, Limits: api.Curve{Points: []api.Point{{X: 0, Y: 10}, {X: 10, Y: 1}}}, MaxAge: 5},
		Logic: []api.Logic{logic("permit p = a ;")}, Network: api.Network{Stations: []api.Station{{Name: "s"}}, Detect: 5},
		Zone: api.Zone{State: api.ZoneClosed, Doors: []bool{false}, Keys: []bool{true}, Points: []bool{true}, Searched: true}, Delay: 1,
	}
}

// large has three inputs at two stations.
func large() api.Protection {
	c := example()
	c.Inputs = append(c.Inputs, api.Input{Name: "b", MaxAge: 5, Rising: 1, Falls: 1}, api.Input{Name: "c", MaxAge: 5, Rising: 2, Falls: 3})
	c.Owner = []int{0, 1, 1}
	c.Masks.Maskable = []bool{false, true, true}
	c.Logic = []api.Logic{logic("permit p = a ;"), logic("permit x = b ; permit y = x & c ;")}
	c.Network.Stations = []api.Station{{Name: "s", Delay: 10, Fibre: 20}, {Name: "t", Delay: 10, Fibre: 20}}
	return c
}

func good(c api.Protection, isGood ...bool) []api.Sample {
	var l []api.Sample
	for i := range c.Inputs {
		ok := i >= len(isGood) || isGood[i]
		l = append(l, api.Sample{A: ok, B: ok, Valid: true})
	}
	return l
}

func TestExamples(t *testing.T) {
	c := example()
	certified, e := Certified(c)
	if removalTime(c) != 2 || certified != 4 || e != api.OK {
		t.Errorf("P55.1: Certified: %d %d", certified, e)
	}
	ok, bad := good(c), good(c, false)
	states, e := Run(c, []api.ProtectionStep{{Samples: ok}, {Samples: ok, Kind: 5}, {Samples: ok, Kind: 6}, {Samples: bad}, {Samples: bad}, {Samples: bad}, {Samples: bad}})
	if e != api.OK {
		t.Fatalf("P55.1: Run: %d", e)
	}
	var beam []bool
	var dumps []int
	for _, s := range states {
		beam, dumps = append(beam, s.Beam), append(dumps, s.Dump)
	}
	if !slices.Equal(beam, []bool{false, false, false, true, true, true, true, false}) || !slices.Equal(dumps, []int{-1, -1, -1, -1, -1, 2, 1, -1}) {
		t.Errorf("P55.1: Run: %v %v", beam, dumps)
	}
	if isRequired, e := Required(c, states[5]); !isRequired || e != api.OK {
		t.Errorf("P55.1: Required: %v %d", isRequired, e)
	}
	if isRequired, _ := Required(c, states[4]); isRequired {
		t.Error("P55.1: Required")
	}
	if permitted, l, e := Permit(c, states[5]); permitted || !slices.Equal(l, []string{"latch a", "latch b", "s", "removal"}) || e != api.OK {
		t.Errorf("P55.1: Permit: %v %d", l, e)
	}
	if permitted, l, _ := Permit(c, states[3]); !permitted || len(l) != 0 {
		t.Errorf("P55.1: Permit: %v", l)
	}
	if l, e := Monitor(c, []api.ProtectionStep{{Samples: ok}, {Samples: ok, Kind: 5}, {Samples: ok, Kind: 6}, {Samples: bad}, {Samples: bad}, {Samples: bad}, {Samples: bad}}); len(l) != 0 || e != api.OK {
		t.Errorf("P55.2: Monitor: %v %d", l, e)
	}
}

func TestActions(t *testing.T) {
	c := large()
	ok := good(c)
	setup := api.Conditions{Intensity: 1, Energy: 5, FlagA: true, FlagB: true}
	s, _ := Start(c)
	do := func(a api.ProtectionStep, want api.Errno) {
		t.Helper()
		if a.Samples == nil {
			a.Samples = ok
		}
		a.Conditions = setup
		next, e := Do(c, s, a)
		if e != want {
			t.Fatalf("P55.1: %v: %d", a, e)
		}
		if e == api.OK {
			s = next
		}
	}
	do(api.ProtectionStep{Kind: 5}, api.ErrState)
	do(api.ProtectionStep{}, 0)
	do(api.ProtectionStep{Kind: 6}, api.ErrDenied)
	do(api.ProtectionStep{Kind: 5}, 0)
	do(api.ProtectionStep{Kind: 6}, 0)
	do(api.ProtectionStep{Kind: 1, Value: 0}, api.ErrDenied)
	do(api.ProtectionStep{Kind: 1, Value: 3}, api.ErrRange)
	do(api.ProtectionStep{Kind: 2, Value: 2}, api.ErrNotFound)
	do(api.ProtectionStep{Kind: 1, Value: 2}, 0)
	if m := s.Masks.Masks[0]; m.Until != s.Now+20 || m.Who != "operator" || !s.Beam {
		t.Errorf("P55.1: a mask: %v", m)
	}
	for range 4 {
		do(api.ProtectionStep{Samples: good(c, true, true, false)}, 0)
	}
	if !s.Beam || s.Dump != -1 || s.Filters[2].State != api.InputNotOK {
		t.Errorf("P55.1: a masked input: %v", s)
	}
	do(api.ProtectionStep{Kind: 4, Failure: api.Failure{Kind: 9}}, api.ErrInvalid)
	do(api.ProtectionStep{Kind: 4, Failure: api.Failure{Kind: 1, Loop: 1}}, 0)
	do(api.ProtectionStep{Kind: 4, Failure: api.Failure{Kind: 1, Loop: 1}}, api.ErrState)
	do(api.ProtectionStep{Kind: 8}, 0)
	do(api.ProtectionStep{Kind: 3, Value: 3}, api.ErrState)
	do(api.ProtectionStep{Kind: 7}, 0)
	if s.Dump != 2 || !s.Beam {
		t.Errorf("P55.1: a request: %v", s)
	}
	do(api.ProtectionStep{Kind: 6}, api.ErrDenied)
	do(api.ProtectionStep{Kind: 2, Value: 2}, 0)
	do(api.ProtectionStep{}, 0)
	if s.Beam || s.Dump != -1 {
		t.Errorf("P55.1: the removal: %v", s)
	}
	do(api.ProtectionStep{Kind: 3, Value: 30}, 0)
	if permitted, l, _ := Permit(c, s); permitted || !slices.Contains(l, "s") {
		t.Errorf("P55.2: an open door: %v", l)
	}
	before := s
	do(api.ProtectionStep{Kind: 3, Value: 40}, 0)
	if !before.Zone.Doors[0] || s.Zone.Doors[0] {
		t.Error("rules: an argument was changed")
	}
	do(api.ProtectionStep{Kind: 9}, api.ErrInvalid)
	do(api.ProtectionStep{Samples: ok[:2]}, api.ErrRange)
	do(api.ProtectionStep{Samples: []api.Sample{{}, {}, {Age: -1}}}, api.ErrRange)
}

func TestRuns(t *testing.T) {
	r := rand.New(rand.NewSource(39))
	c := large()
	failures, _ := permitloop.Failures(c.Network)
	for delay := range 3 {
		c.Delay = delay
		certified, _ := Certified(c)
		for range 60 {
			var l []api.ProtectionStep
			for i := range 40 {
				a := api.ProtectionStep{Samples: good(c, r.Intn(12) > 0, r.Intn(12) > 0, r.Intn(12) > 0), Kind: r.Intn(9), Value: r.Intn(3)}
				a.Conditions = api.Conditions{Intensity: r.Intn(12), Energy: r.Intn(11), FlagA: true, FlagB: r.Intn(4) > 0}
				switch {
				case i < 3:
					a.Samples, a.Kind = good(c), i%3/2*5
				case a.Kind == 4:
					a.Failure = failures[r.Intn(len(failures))]
				case a.Kind == 3:
					a.Value = []int{1, 2, 3, 30, 40, 50}[r.Intn(6)]
				case r.Intn(2) == 0:
					a.Kind = 5 + r.Intn(2)
				}
				l = append(l, a)
			}
			breaches, e := Monitor(c, l)
			states, _ := Run(c, l)
			if len(breaches) != 0 || e != api.OK {
				t.Fatalf("P55.2: %v %d", breaches, e)
			}
			for i, s := range states {
				if !belongs(c, s) {
					t.Fatalf("P55.1: state %d", i)
				}
			}
			// Behind lasting bad samples of an input that counts, there is no beam.
			for i := range l {
				l[i].Samples[0] = api.Sample{A: true}
				if l[i].Kind == 1 {
					l[i].Kind = 0
				}
			}
			states, _ = Run(c, append(slices.Clone(l[:0]), l...))
			if states[min(certified, len(states)-1)].Beam {
				t.Fatal("P55.2: beam behind the certified time")
			}
		}
	}
}

// A configuration whose states are made by hand shows the breaches.
func TestBreaches(t *testing.T) {
	c := example()
	c.Delay = 0
	if removalTime(c) != 1 {
		t.Fatalf("P55.1: removal time %d", removalTime(c))
	}
	s := start(c)
	s.Beam = true
	if isRequired := required(c, s); !isRequired || len(reasons(s)) != 3 {
		t.Errorf("P55.1: %v", reasons(s))
	}
}

func TestErrors(t *testing.T) {
	for i, k := range []struct {
		change func(c *api.Protection)
		want   api.Errno
	}{
		{func(c *api.Protection) {}, 0}, {func(c *api.Protection) { c.Inputs = nil }, api.ErrEmpty}, {func(c *api.Protection) { c.Inputs = make([]api.Input, 13) }, api.ErrTooLarge}, {func(c *api.Protection) { c.Inputs[1].Name = "" }, api.ErrSyntax}, {func(c *api.Protection) { c.Inputs[1].Name = "a" }, api.ErrExists},
		{func(c *api.Protection) { c.Network.Stations[1].Name = "s" }, api.ErrExists}, {func(c *api.Protection) { c.Owner = c.Owner[1:] }, api.ErrRange}, {func(c *api.Protection) { c.Owner[0] = 2 }, api.ErrRange}, {func(c *api.Protection) { c.Masks.MaxAge = -1 }, api.ErrRange}, {func(c *api.Protection) { c.Masks.Maskable = []bool{true} }, api.ErrRange},
		{func(c *api.Protection) { c.Masks.Masks = []api.Mask{{Input: 1, Who: "eva"}} }, api.ErrState}, {func(c *api.Protection) { c.Logic = c.Logic[1:] }, api.ErrRange}, {func(c *api.Protection) { c.Logic[0].Permits[0].Name = "" }, api.ErrSyntax}, {func(c *api.Protection) { c.Logic[0].Permits = nil }, api.ErrEmpty}, {func(c *api.Protection) { c.Logic[0] = logic("permit p = b ;") }, api.ErrUnknown},
		{func(c *api.Protection) { c.Zone.State = 0 }, api.ErrRange}, {func(c *api.Protection) { c.Delay = 101 }, api.ErrRange},
	} {
		c := large()
		k.change(&c)
		if _, e := Certified(c); e != k.want {
			t.Errorf("P55.1: row %d: %d", i, e)
		}
	}
	c := large()
	for i, change := range []func(s *api.ProtectionState){
		func(s *api.ProtectionState) { s.Filters = s.Filters[1:] }, func(s *api.ProtectionState) { s.Filters[0].State = 4 }, func(s *api.ProtectionState) { s.Conditions.Age = -1 }, func(s *api.ProtectionState) { s.Masks.Maskable[0] = true }, func(s *api.ProtectionState) { s.Masks.MaxAge = 6 },
		func(s *api.ProtectionState) { s.Masks.Limits.Points[0].Y = 11 }, func(s *api.ProtectionState) { s.Loops.LatchA = false }, func(s *api.ProtectionState) { s.Loops.Network.Detect = 6 }, func(s *api.ProtectionState) { s.Zone.Doors = []bool{true, false} }, func(s *api.ProtectionState) { s.Zone.State = 0 },
		func(s *api.ProtectionState) { s.Dump = 1 }, func(s *api.ProtectionState) { s.Dump = 0; s.Beam = true }, func(s *api.ProtectionState) { s.Dump = 3; s.Beam = true }, func(s *api.ProtectionState) { s.Now = 1<<30 + 1 },
	} {
		s, _ := Start(c)
		change(&s)
		if _, e := Do(c, s, api.ProtectionStep{}); e != api.ErrInvalid {
			t.Errorf("P55.1: state, row %d: %d", i, e)
		}
	}
	s, _ := Start(c)
	s.Now = 1 << 30
	if _, e := Do(c, s, api.ProtectionStep{}); e != api.ErrFull {
		t.Errorf("P55.1: Do: %d", e)
	}
	if _, e := Run(c, make([]api.ProtectionStep, 101)); e != api.ErrTooLarge {
		t.Errorf("P55.1: Run: %d", e)
	}
	if _, e := Monitor(c, []api.ProtectionStep{{Samples: good(c), Kind: 5}, {Samples: good(c), Kind: 9}}); e != api.ErrInvalid {
		t.Errorf("P55.1: Monitor: %d", e)
	}
	if _, e := Run(c, []api.ProtectionStep{{Samples: good(c), Conditions: api.Conditions{Age: -1}}}); e != api.ErrRange {
		t.Errorf("P55.1: Run: %d", e)
	}
}
