package cycling

import (
	"math/rand"
	"slices"
	"testing"

	"betatron/api"
)

var cycle = api.Cycle{Name: "c", Currents: []int{0, 10}, Repeat: 2, Final: 4}

func magnet(ones ...bool) api.Magnet {
	return api.Magnet{Relays: []api.Relay{{Up: 5, Down: 1, Weight: 3}, {Up: 8, Down: 4, Weight: 2}}, Ones: ones}
}

func TestExamples(t *testing.T) {
	l, e := Steps(cycle)
	if !slices.Equal(l, []int{0, 10, 0, 10, 4}) || e != api.OK {
		t.Errorf("P24.1: Steps: %v %d", l, e)
	}
	for i, c := range []struct {
		more         []int
		status, next int
		e            api.Errno
	}{
		{nil, api.Cycled, 0, api.ErrState}, {[]int{3}, api.Cycled, 0, api.ErrState}, {[]int{3, 0}, api.Cycled, 10, 0}, {[]int{4, 4}, api.Cycled, 0, api.ErrState},
		{[]int{5}, api.Drifted, 0, 0}, {[]int{10}, api.Drifted, 0, 0}, {[]int{10, 0}, api.Cycling, 10, 0}, {[]int{3, 4}, api.Drifted, 0, 0}, {[]int{-1}, api.Drifted, 0, 0},
		{[]int{5, 0, 10, 0, 10, 4}, api.Cycled, 0, api.ErrState}, {[]int{5, 0, 10, 0, 0}, api.Cycling, 10, 0},
	} {
		settings := append(slices.Clone(l), c.more...)
		status, e := Status(cycle, settings)
		next, f := Next(cycle, settings)
		if status != c.status || e != api.OK || next != c.next || f != c.e {
			t.Errorf("P24.1: row %d: %d %d %d %d", i, status, e, next, f)
		}
	}
	if status, _ := Status(cycle, []int{7}); status != api.NotCycled {
		t.Errorf("P24.1: Status: %d", status)
	}
	m := magnet(true, true)
	suits, e := Suits(m, cycle)
	least, f := Least(m, cycle)
	if !suits || e != api.OK || least != 1 || f != api.OK {
		t.Errorf("P24.1: Suits: %v %d %d %d", suits, e, least, f)
	}
	if field, e := FieldAfter(m, cycle, nil); field != 3 || e != api.OK {
		t.Errorf("P24.1: FieldAfter: %d %d", field, e)
	}
	if field, e := FieldAfter(m, cycle, []int{1}); field != 0 || e != api.OK {
		t.Errorf("P24.1: FieldAfter: %d %d", field, e)
	}
}

func TestConsequences(t *testing.T) {
	r := rand.New(rand.NewSource(11))
	rising := api.Cycle{Name: "c", Currents: []int{5, 0}, Repeat: 1, Final: 3}
	for range 500 {
		for _, c := range []api.Cycle{cycle, rising} {
			var before, behind []int
			for range r.Intn(5) {
				// (A cycle that is broken off at a repetition does not count on, by the rule for progress.)
				before = append(before, 11+r.Intn(5))
			}
			for range r.Intn(4) {
				behind = append(behind, r.Intn(12))
			}
			settings := append(before, steps(c)...)
			if status, _ := Status(c, settings); status != api.Cycled {
				t.Fatalf("P24.2: %v", settings)
			}
			if status, _ := Status(c, append(settings, behind...)); status == api.Cycled && len(behind) > 0 {
				a, _ := FieldAfter(magnet(false, false), c, behind)
				b, _ := FieldAfter(magnet(true, true), c, behind[len(behind)-1:])
				direct := steps(c)
				if i := slices.Index(behind, c.Currents[0]); i < 0 && a != b {
					t.Fatalf("P24.2: %v behind %v: %d and %d", behind, direct, a, b)
				}
			}
		}
	}
}

func TestErrors(t *testing.T) {
	for i, c := range []struct {
		change func(c *api.Cycle)
		want   api.Errno
	}{
		{func(c *api.Cycle) { c.Name = "" }, api.ErrSyntax}, {func(c *api.Cycle) { c.Currents = []int{1} }, api.ErrEmpty}, {func(c *api.Cycle) { c.Currents = make([]int, 21) }, api.ErrTooLarge},
		{func(c *api.Cycle) { c.Currents = []int{1, 1<<40 + 1} }, api.ErrRange}, {func(c *api.Cycle) { c.Currents = []int{1, 1} }, api.ErrConflict}, {func(c *api.Cycle) { c.Repeat = 10 }, api.ErrRange},
		{func(c *api.Cycle) { c.Repeat = 0 }, api.ErrRange}, {func(c *api.Cycle) { c.Final = 1<<40 + 1 }, api.ErrRange}, {func(c *api.Cycle) { c.Final = 10 }, api.ErrConflict}, {func(c *api.Cycle) {}, 0},
	} {
		bad := cycle
		c.change(&bad)
		if _, e := Steps(bad); e != c.want {
			t.Errorf("P24.1: row %d: %d", i, e)
		}
	}
	if _, e := Status(cycle, make([]int, 501)); e != api.ErrTooLarge {
		t.Errorf("P24.1: Status: %d", e)
	}
	if _, e := Next(cycle, []int{1<<40 + 1}); e != api.ErrRange {
		t.Errorf("P24.1: Next: %d", e)
	}
	stiff := api.Magnet{Relays: []api.Relay{{Up: 50, Down: -5, Weight: 1}}, Ones: []bool{true}}
	if suits, e := Suits(stiff, cycle); suits || e != api.OK {
		t.Errorf("P24.1: Suits: %v %d", suits, e)
	}
	if _, e := Least(stiff, cycle); e != api.ErrNone {
		t.Errorf("P24.1: Least: %d", e)
	}
	if _, e := FieldAfter(stiff, cycle, nil); e != api.ErrState {
		t.Errorf("P24.1: FieldAfter: %d", e)
	}
	if _, e := FieldAfter(api.Magnet{}, api.Cycle{}, nil); e != api.ErrEmpty {
		t.Errorf("P24.1: FieldAfter: %d", e)
	}
}
