package converter

import (
	"math/rand"
	"slices"
	"testing"

	"betatron/api"
)

func TestExamples(t *testing.T) {
	c, e := New(0, 1000, 300)
	if c.State != api.ConverterOff || e != api.OK {
		t.Errorf("P25.1: New: %v %d", c, e)
	}
	c, failed, e := Run(c, []api.Step{{Kind: api.CommandStart}, {Kind: api.CommandOn}, {Kind: api.CommandSet, Value: 700}, {Value: 2}})
	if c.Current != 600 || c.State != api.ConverterRamping || failed != -1 || e != api.OK {
		t.Errorf("P25.1: Run: %v %d %d", c, failed, e)
	}
	if n, _ := Remaining(c); n != 1 {
		t.Errorf("P25.1: Remaining: %d", n)
	}
	on, _ := Tick(c, 1)
	if on.Current != 700 || on.State != api.ConverterOn {
		t.Errorf("P25.1: Tick: %v", on)
	}
	c, failed, _ = Run(on, []api.Step{{Kind: api.CommandTrip}, {Value: 2}, {Kind: api.CommandReset}, {Value: 1}})
	if failed != 2 || c.State != api.ConverterFault || c.Current != 100 {
		t.Errorf("P25.1: Run: %v %d", c, failed)
	}
	c, failed, _ = Run(c, []api.Step{{Value: 1}, {Kind: api.CommandReset}})
	if failed != -1 || c.State != api.ConverterOff {
		t.Errorf("P25.1: reset: %v", c)
	}
	stopped, _ := Command(on, api.CommandStop, 0)
	if stopped.State != api.ConverterStandby || stopped.Target != 0 || !slices.Equal(Allowed(stopped), []int{api.CommandStop, api.CommandTrip}) {
		t.Errorf("P25.1: stop: %v %v", stopped, Allowed(stopped))
	}
	same, _ := Command(on, api.CommandSet, 700)
	if same != on || !slices.Equal(Allowed(on), []int{api.CommandSet, api.CommandStop, api.CommandTrip}) {
		t.Errorf("P25.1: set: %v", same)
	}
	for state, name := range []string{"", "off", "standby", "on", "ramping", "fault", ""} {
		if StateName(state) != name {
			t.Errorf("P25.1: StateName(%d)", state)
		}
	}
}

func TestConsequences(t *testing.T) {
	r := rand.New(rand.NewSource(12))
	for range 300 {
		c, _ := New(-r.Intn(50), r.Intn(50), r.Intn(9)+1)
		for range 30 {
			kind, value := r.Intn(7), r.Intn(100)-50
			if r.Intn(3) > 0 && len(Allowed(c)) > 0 {
				kind = Allowed(c)[0]
			}
			if kind == 0 {
				ticks := r.Intn(4)
				a, _ := Tick(c, ticks)
				b, _ := Tick(a, 2)
				both, _ := Tick(c, ticks+2)
				one, _ := Tick(c, 1)
				if b != both || max(one.Current-c.Current, c.Current-one.Current) > c.Step {
					t.Fatalf("P25.2: ticks of %v", c)
				}
				c = a
			} else {
				next, e := Command(c, kind, value)
				if (e == api.ErrState) == slices.Contains(Allowed(c), kind) {
					t.Fatalf("P25.2: command %d of %v: %d", kind, c, e)
				}
				if e == api.OK {
					c = next
				}
			}
			n, _ := Remaining(c)
			end, _ := Tick(c, n)
			before, _ := Tick(c, max(n-1, 0))
			if Valid(c) != api.OK || end.Current != c.Target || n > 0 && before.Current == c.Target {
				t.Fatalf("P25.2: %v", c)
			}
		}
	}
}

func TestErrors(t *testing.T) {
	big := 1 << 40
	for i, c := range []struct{ low, high, step int }{{1, 2, 1}, {-1, -1, 1}, {-big - 1, 0, 1}, {0, big + 1, 1}, {0, 0, 0}, {0, 0, big + 1}} {
		if _, e := New(c.low, c.high, c.step); e != api.ErrRange {
			t.Errorf("P25.1: New, row %d: %d", i, e)
		}
	}
	good := api.Converter{State: api.ConverterOn, Maximum: 10, Step: 1}
	for i, c := range []struct {
		change func(c *api.Converter)
		want   api.Errno
	}{
		{func(c *api.Converter) {}, 0}, {func(c *api.Converter) { c.Step = 0; c.State = 9 }, api.ErrRange}, {func(c *api.Converter) { c.State = 6; c.Current = 11 }, api.ErrInvalid},
		{func(c *api.Converter) { c.Current = 11 }, api.ErrRange}, {func(c *api.Converter) { c.Target = -1 }, api.ErrRange}, {func(c *api.Converter) { c.Target = 1 }, api.ErrState},
		{func(c *api.Converter) { c.State = api.ConverterRamping }, api.ErrState}, {func(c *api.Converter) { c.State = api.ConverterFault; c.Target = 1; c.Current = 1 }, api.ErrState},
	} {
		bad := good
		c.change(&bad)
		if e := Valid(bad); e != c.want {
			t.Errorf("P25.1: Valid, row %d: %d", i, e)
		}
	}
	for i, c := range []struct {
		kind, value int
		want        api.Errno
	}{{0, 0, api.ErrInvalid}, {7, 0, api.ErrInvalid}, {api.CommandStart, 0, api.ErrState}, {api.CommandSet, 11, api.ErrRange}, {api.CommandTrip, 11, 0}} {
		if _, e := Command(good, c.kind, c.value); e != c.want {
			t.Errorf("P25.1: Command, row %d: %d", i, e)
		}
	}
	if _, e := Tick(good, -1); e != api.ErrRange {
		t.Errorf("P25.1: Tick: %d", e)
	}
	if _, e := Tick(good, big+1); e != api.ErrRange {
		t.Errorf("P25.1: Tick: %d", e)
	}
	if _, _, e := Run(good, make([]api.Step, 201)); e != api.ErrTooLarge {
		t.Errorf("P25.1: Run: %d", e)
	}
	if Allowed(api.Converter{}) != nil {
		t.Error("P25.1: Allowed")
	}
	huge := api.Converter{State: api.ConverterRamping, Minimum: -big, Maximum: big, Step: big, Current: -big, Target: big}
	if c, e := Tick(huge, big); c.Current != big || e != api.OK {
		t.Errorf("P25.1: Tick: %v %d", c, e)
	}
}
