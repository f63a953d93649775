package mask

import (
	"math/rand"
	"slices"
	"testing"

	"betatron/api"
	"betatron/clone"
)

func table() api.MaskTable {
	return api.MaskTable{Maskable: []bool{true, true, false}, Limits: api.Curve{Points: []api.Point{{X: 0, Y: 100}, {X: 80, Y: 20}}}, MaxAge: 5, Masks: []api.Mask{{Input: 1, Until: 50, Who: "eva"}}}
}

func conditions(intensity, energy, age int) api.Conditions {
	return api.Conditions{Intensity: intensity, Energy: energy, Age: age, FlagA: true, FlagB: true}
}

func TestExamples(t *testing.T) {
	m := table()
	one := conditions(60, 40, 5)
	one.FlagB = false
	for i, c := range []struct {
		q    api.Conditions
		want bool
	}{{conditions(60, 40, 5), true}, {conditions(61, 40, 5), false}, {conditions(60, 40, 6), false}, {conditions(1, 81, 5), false}, {conditions(1, -1, 5), false}, {one, false}, {conditions(20, 80, 0), true}} {
		if f, e := Flag(m, c.q); f != c.want || e != api.OK {
			t.Errorf("P44.1: Flag, row %d: %v %d", i, f, e)
		}
	}
	for i, c := range []struct {
		q                         api.Conditions
		now                       int
		effective, active, blocks []int
	}{
		{conditions(60, 40, 5), 50, []int{1, 1, 2}, []int{1}, nil}, {conditions(60, 40, 5), 51, []int{1, 2, 2}, nil, nil}, {conditions(61, 40, 5), 50, []int{1, 2, 2}, nil, []int{1}}, {conditions(61, 40, 5), 51, []int{1, 2, 2}, nil, nil},
	} {
		states := []int{1, 2, 2}
		effective, a := Effective(m, states, c.q, c.now)
		active, b := Active(m, c.q, c.now)
		blocks, d := Blocking(m, states, c.q, c.now)
		if !slices.Equal(effective, c.effective) || !slices.Equal(active, c.active) || !slices.Equal(blocks, c.blocks) || a+b+d != 0 {
			t.Errorf("P44.1: row %d: %v %v %v", i, effective, active, blocks)
		}
	}
}

func TestConsequences(t *testing.T) {
	r := rand.New(rand.NewSource(30))
	for range 300 {
		m := table()
		m.Masks = nil
		for range r.Intn(4) {
			m, _ = Set(m, r.Intn(2), r.Intn(20), "eva")
		}
		states := []int{r.Intn(3) + 1, r.Intn(3) + 1, r.Intn(3) + 1}
		q := conditions(r.Intn(120), r.Intn(80), r.Intn(8))
		now := r.Intn(25)
		effective, e := Effective(m, states, q, now)
		active, _ := Active(m, q, now)
		for i := range states {
			if e != api.OK || effective[i] != states[i] && (effective[i] != api.InputOK || !m.Maskable[i] || !slices.Contains(active, i)) {
				t.Fatalf("P44.2: %v became %v", states, effective)
			}
		}
		weaker := q
		weaker.Intensity, weaker.Age = q.Intensity/2, q.Age/2
		more, _ := Active(m, weaker, now)
		for _, i := range active {
			if !slices.Contains(more, i) {
				t.Fatal("P44.2: less intensity")
			}
		}
		expired, _ := Expire(m, now)
		same, _ := Effective(expired, states, q, now+r.Intn(3))
		later, _ := Effective(m, states, q, now+1)
		after, _ := Effective(expired, states, q, now+1)
		if !slices.Equal(later, after) || same == nil {
			t.Fatal("P44.2: Expire")
		}
	}
	m := table()
	set, e := Set(m, 0, 9, "tom")
	back, f := Clear(set, 0)
	if !slices.Equal(back.Masks, m.Masks) || e+f != 0 || len(set.Masks) != 2 || set.Masks[0].Who != "tom" {
		t.Errorf("P44.2: Set and Clear: %v", back)
	}
	if again, _ := Set(m, 1, 9, "tom"); len(again.Masks) != 1 || again.Masks[0].Until != 9 || m.Masks[0].Until != 50 {
		t.Errorf("P44.1: Set: %v", again)
	}
}

func TestErrors(t *testing.T) {
	for i, c := range []struct {
		change func(m *api.MaskTable)
		want   api.Errno
	}{
		{func(m *api.MaskTable) {}, 0}, {func(m *api.MaskTable) { m.Maskable = nil }, api.ErrEmpty}, {func(m *api.MaskTable) { m.Maskable = make([]bool, 61) }, api.ErrTooLarge}, {func(m *api.MaskTable) { m.Limits.Points = nil }, api.ErrEmpty}, {func(m *api.MaskTable) { m.Limits.Points[0].Y = -1 }, api.ErrRange},
		{func(m *api.MaskTable) { m.MaxAge = -1 }, api.ErrRange}, {func(m *api.MaskTable) { m.Masks[0].Input = 3 }, api.ErrRange}, {func(m *api.MaskTable) { m.Masks[0].Input = 2 }, api.ErrDenied}, {func(m *api.MaskTable) { m.Masks = append(m.Masks, m.Masks[0]) }, api.ErrOrder},
		{func(m *api.MaskTable) { m.Masks[0].Until = 1<<40 + 1 }, api.ErrRange}, {func(m *api.MaskTable) { m.Masks[0].Who = "" }, api.ErrSyntax},
	} {
		m := clone.MaskTable(table())
		c.change(&m)
		if _, e := Expire(m, 0); e != c.want {
			t.Errorf("P44.1: row %d: %d", i, e)
		}
	}
	m := table()
	for i, c := range []struct {
		input, until int
		who          string
		want         api.Errno
	}{{3, -1, "", api.ErrRange}, {2, -1, "", api.ErrDenied}, {1, -1, "", api.ErrRange}, {1, 1, "", api.ErrSyntax}} {
		if _, e := Set(m, c.input, c.until, c.who); e != c.want {
			t.Errorf("P44.1: Set, row %d: %d", i, e)
		}
	}
	for input, want := range map[int]api.Errno{3: api.ErrRange, 0: api.ErrNotFound, 2: api.ErrNotFound} {
		if _, e := Clear(m, input); e != want {
			t.Errorf("P44.1: Clear: %d", e)
		}
	}
	for i, q := range []api.Conditions{{Intensity: -1}, {Energy: 1<<40 + 1}, {Age: -1}} {
		if _, e := Flag(m, q); e != api.ErrRange {
			t.Errorf("P44.1: Flag, row %d: %d", i, e)
		}
		if _, e := Active(m, q, 0); e != api.ErrRange {
			t.Errorf("P44.1: Active, row %d: %d", i, e)
		}
	}
	for i, c := range []struct {
		states []int
		now    int
	}{{[]int{1, 2}, 0}, {[]int{1, 2, 4}, 0}, {[]int{1, 2, 3}, -1}} {
		if _, e := Effective(m, c.states, api.Conditions{}, c.now); e != api.ErrRange {
			t.Errorf("P44.1: Effective, row %d: %d", i, e)
		}
		if _, e := Blocking(m, c.states, api.Conditions{}, c.now); e != api.ErrRange {
			t.Errorf("P44.1: Blocking, row %d: %d", i, e)
		}
	}
	if _, e := Expire(m, -1); e != api.ErrRange {
		t.Errorf("P44.1: Expire: %d", e)
	}
}
