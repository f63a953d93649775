package zone

import (
	"math/rand"
	"slices"
	"testing"

	"betatron/api"
)

func walk(t *testing.T, z api.Zone, l ...int) api.Zone {
	t.Helper()
	for i, event := range l {
		next, e := Do(z, event)
		if e != api.OK || !slices.Contains(Events(z), event) {
			t.Fatalf("event %d (%d): %d", i, event, e)
		}
		z = next
	}
	return z
}

func TestExamples(t *testing.T) {
	z, e := New(1, 1, 1)
	if l := Events(z); !slices.Equal(l, []int{1, 30}) || e != api.OK {
		t.Errorf("P47.1: Events: %v %d", l, e)
	}
	closed := walk(t, z, 1, 50, 2, 3)
	if closed.State != api.ZoneClosed || Veto(closed) || !Veto(z) {
		t.Errorf("P47.1: %v", closed)
	}
	broken := walk(t, closed, 30)
	if broken.State != api.ZoneOpen || broken.Searched || broken.Points[0] || !broken.Doors[0] {
		t.Errorf("P47.1: %v", broken)
	}
	if l, e := Attack(z, 4); !slices.Equal(l, []int{1, 50, 2, 3, 30}) || e != api.OK {
		t.Errorf("P47.1: Attack: %v %d", l, e)
	}
}

func TestEvents(t *testing.T) {
	z, _ := New(2, 2, 2)
	controlled := walk(t, z, 1, 50, 51, 2)
	for i, c := range []struct {
		from  api.Zone
		event int
		state int
		open  []bool
	}{
		{walk(t, controlled, 10), 31, api.ZoneControlled, []bool{false, true}}, {controlled, 30, api.ZoneOpen, []bool{true, false}}, {walk(t, controlled, 10, 31), 30, api.ZoneOpen, []bool{true, true}},
		{walk(t, controlled, 10, 31, 41, 20), 3, api.ZoneClosed, []bool{false, false}}, {walk(t, z, 1, 50), 31, api.ZoneOpen, []bool{false, true}}, {walk(t, z, 30), 31, api.ZoneOpen, []bool{true, true}},
		{walk(t, controlled, 3), 6, api.ZoneControlled, []bool{false, false}}, {walk(t, controlled, 3), 5, api.ZoneOpen, []bool{false, false}}, {controlled, 4, api.ZoneOpen, []bool{false, false}},
	} {
		next := walk(t, c.from, c.event)
		if next.State != c.state || !slices.Equal(next.Doors, c.open) || c.state == api.ZoneOpen && (next.Searched || next.Points[0]) {
			t.Errorf("P47.1: row %d: %v", i, next)
		}
	}
	for i, c := range []struct {
		from  api.Zone
		event int
	}{
		{z, 2}, {z, 5}, {z, 10}, {z, 50}, {walk(t, z, 30), 1}, {walk(t, z, 1), 51}, {walk(t, z, 1, 50), 50}, {walk(t, z, 1, 50), 2}, {walk(t, controlled, 10), 3}, {walk(t, controlled, 10, 30), 3}, {walk(t, controlled, 3), 10}, {controlled, 20}, {controlled, 40}, {controlled, 32}, {controlled, 12}, {controlled, 0}, {controlled, 7}, {controlled, -1}, {controlled, 60},
	} {
		if _, e := Do(c.from, c.event); e != api.ErrState || slices.Contains(Events(c.from), c.event) {
			t.Errorf("P47.1: event %d of row %d: %d", c.event, i, e)
		}
	}
}

func TestSets(t *testing.T) {
	for doors := 1; doors <= 2; doors++ {
		for keys := 1; keys <= 3; keys++ {
			z, _ := New(doors, keys, 4-keys)
			l, e := Explore(z)
			if e != api.OK || !CheckSet(z, l) || CheckSet(z, l[1:]) || CheckSet(z, append(slices.Clone(l), 1<<20)) || CheckSet(z, nil) {
				t.Fatalf("P47.2: Explore: %d", e)
			}
			for _, n := range l {
				member, ok := withNumber(z, n)
				if !ok || number(member) != n || isUnsafe(member) {
					t.Fatalf("P47.2: zone %d", n)
				}
			}
			for rule := 0; rule <= 9; rule++ {
				_, e := Attack(z, rule)
				if hasAttack := slices.Contains([]int{1, 2, 4, 5}, rule); hasAttack != (e == api.OK) || !hasAttack && e != api.ErrNone {
					t.Errorf("P47.2: rule %d: %d", rule, e)
				}
			}
		}
	}
	unsafe := api.Zone{State: api.ZoneClosed, Doors: []bool{false}, Keys: []bool{true}, Points: []bool{true}}
	if l, e := Attack(unsafe, 0); len(l) != 0 || e != api.OK || CheckSet(unsafe, []int{number(unsafe)}) {
		t.Errorf("P47.1: Attack of an unsafe zone: %v %d", l, e)
	}
}

func TestRuns(t *testing.T) {
	r := rand.New(rand.NewSource(33))
	for range 300 {
		z, _ := New(r.Intn(2)+1, r.Intn(3)+1, r.Intn(3)+1)
		var choices []int
		for range r.Intn(200) {
			choices = append(choices, r.Intn(2000)-1000)
		}
		end, l, e := Run(z, choices)
		if e != api.OK || len(l) != len(choices) || isUnsafe(end) || number(walk(t, z, l...)) != number(end) {
			t.Fatalf("P47.2: %v", end)
		}
	}
	z, _ := New(1, 1, 1)
	if _, l, _ := Run(z, []int{-1}); !slices.Equal(l, []int{30}) {
		t.Errorf("P47.1: Run: %v", l)
	}
}

func TestErrors(t *testing.T) {
	for _, c := range [][3]int{{0, 1, 1}, {3, 1, 1}, {1, 0, 1}, {1, 4, 1}, {1, 1, 0}, {1, 1, 4}} {
		if _, e := New(c[0], c[1], c[2]); e != api.ErrRange {
			t.Errorf("P47.1: New: %d", e)
		}
	}
	good := api.Zone{State: 3, Doors: []bool{false}, Keys: []bool{true}, Points: []bool{true, false}}
	for i, c := range []struct {
		change func(z *api.Zone)
		want   api.Errno
	}{{func(z *api.Zone) {}, 0}, {func(z *api.Zone) { z.State = 5 }, api.ErrRange}, {func(z *api.Zone) { z.State = 0 }, api.ErrRange}, {func(z *api.Zone) { z.Doors = nil }, api.ErrRange}, {func(z *api.Zone) { z.Points = []bool{false, true} }, api.ErrInvalid}} {
		z := good
		c.change(&z)
		if e := Valid(z); e != c.want {
			t.Errorf("P47.1: row %d: %d", i, e)
		}
		if c.want == api.OK {
			continue
		}
		if _, e := Do(z, 0); e != c.want || Events(z) != nil || !Veto(z) || CheckSet(z, nil) {
			t.Errorf("P47.1: row %d: %d", i, e)
		}
	}
	if _, _, e := Run(good, make([]int, 201)); e != api.ErrTooLarge {
		t.Errorf("P47.1: Run: %d", e)
	}
	for _, rule := range []int{-1, 10} {
		if _, e := Attack(good, rule); e != api.ErrRange {
			t.Errorf("P47.1: Attack: %d", e)
		}
	}
}
