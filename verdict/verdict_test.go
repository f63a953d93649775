package verdict

import (
	"slices"
	"strings"
	"testing"

	"betatron/api"
)

// source returns a frozen source with good samples from times and values.
func source(clock int, required bool, l ...int) api.Source {
	b := api.Buffer{Capacity: 20, Frozen: true}
	for i := 0; i < len(l); i += 2 {
		b.Samples = append(b.Samples, api.Measurement{At: l[i], Value: l[i+1], Good: true})
	}
	return api.Source{Clock: clock, Buffer: b, Required: required, Thresholds: []api.Threshold{{Kind: 1, Limit: 10, Rising: true}, {Kind: 2, Limit: 10}}}
}

func example() api.PostMortem {
	return api.PostMortem{
		Clocks: 1, Sources: []api.Source{source(0, true, 10, 5, 20, 15, 30, 4)}, Rules: []api.CausalRule{{Cause: 1, Effect: 2, Least: 5, Most: 15}},
		From: 10, To: 30, Known: []int{1}, Cleared: []int{1},
	}
}

func TestExamples(t *testing.T) {
	p := example()
	l, e := Records(p)
	if !slices.Equal(l, []api.Record{{Kind: 1, Time: 20}, {Kind: 2, Time: 30}}) || e != api.OK {
		t.Errorf("P52.1: Records: %v %d", l, e)
	}
	if c, e := Cause(p); !slices.Equal(c, []int{0}) || e != api.OK {
		t.Errorf("P52.1: Cause: %v %d", c, e)
	}
	report, e := Report(p)
	if want := "verdict allowed\nrecord 0 1 0 20\nrecord 1 2 0 30\ncause 0"; strings.Join(report, "\n") != want || e != api.OK {
		t.Errorf("P52.1: Report: %v %d", report, e)
	}
	p.From = 9
	if v, reasons, e := Decide(p); v != api.InjectionForbidden || !slices.Equal(reasons, []string{"source 0 is incomplete"}) || e != api.OK {
		t.Errorf("P52.1: Decide: %d %v %d", v, reasons, e)
	}
}

func TestDecide(t *testing.T) {
	for i, c := range []struct {
		change  func(p *api.PostMortem)
		verdict int
		reasons string
	}{
		{func(p *api.PostMortem) {}, 1, ""}, {func(p *api.PostMortem) { p.Cleared = nil }, 3, "kind 1 is not cleared"}, {func(p *api.PostMortem) { p.Known, p.Cleared = nil, nil }, 2, "kind 1 is not known"}, {func(p *api.PostMortem) { p.Sources[0].Buffer.Samples[1].Good = false }, 2, "no records"},
		{func(p *api.PostMortem) { p.Rules = nil; p.To = 31 }, 3, "source 0 is incomplete,kind 2 is not known"},
		{func(p *api.PostMortem) {
			p.Rules = append(p.Rules, api.CausalRule{Cause: 2, Effect: 1, Most: 5})
			p.Sources = append(p.Sources, source(0, false, 0, 20, 15, 3))
		}, 2, "kind 2 is not known"},
		{func(p *api.PostMortem) {
			p.Clocks = 2
			p.Offsets = []api.Offset{{A: 1, B: 0, Most: 10}, {A: 0, B: 1, Most: 10}}
			p.Rules = []api.CausalRule{{Cause: 1, Effect: 2, Most: 50}, {Cause: 2, Effect: 1, Most: 50}}
			p.Sources = []api.Source{source(0, false, 10, 5, 20, 15), source(1, false, 10, 15, 20, 5)}
		}, 2, "2 explanations"},
		{func(p *api.PostMortem) { p.Sources[0].Buffer.Frozen = false; p.Sources[0].Buffer.Remaining = -1 }, 3, "source 0 is incomplete"},
	} {
		p := example()
		c.change(&p)
		v, reasons, e := Decide(p)
		if v != c.verdict || strings.Join(reasons, ",") != c.reasons || e != api.OK {
			t.Errorf("P52.1: row %d: %d %v %d", i, v, reasons, e)
		}
	}
}

func TestConsequences(t *testing.T) {
	p := example()
	p.Clocks = 2
	p.Offsets = []api.Offset{{A: 1, B: 0, Most: 3}, {A: 0, B: 1, Most: 2}}
	p.Sources = append(p.Sources, source(1, true, 5, 15, 22, 5, 40, 6))
	shifted := p
	shifted.Offsets = []api.Offset{{A: 1, B: 0, Most: 103}, {A: 0, B: 1, Most: -98}}
	shifted.Sources = []api.Source{p.Sources[0], source(1, true, 105, 15, 122, 5, 140, 6)}
	v, reasons, e := Decide(p)
	w, again, f := Decide(shifted)
	if v != w || !slices.Equal(reasons, again) || e+f != 0 {
		t.Errorf("P52.2: %d %v and %d %v", v, reasons, w, again)
	}
	a, _ := Records(p)
	b, _ := Records(shifted)
	for i := range a {
		if a[i].Clock == 1 {
			a[i].Time += 100
		}
		if a[i] != b[i] {
			t.Errorf("P52.2: %v and %v", a, b)
		}
	}
	quiet := example()
	quiet.Sources = append(quiet.Sources, source(0, false, 1, 1, 2, 2))
	changed := example()
	changed.Cleared = nil
	if !Same(quiet, example()) || Same(changed, example()) || Same(api.PostMortem{}, api.PostMortem{}) || Same(p, example()) {
		t.Error("P52.2: Same")
	}
	if l, _ := Incomplete(p); len(l) != 0 {
		t.Errorf("P52.1: Incomplete: %v", l)
	}
	p.To = 38
	if l, _ := Incomplete(p); !slices.Equal(l, []int{0, 1}) {
		t.Errorf("P52.1: Incomplete: %v", l)
	}
	p.Offsets = p.Offsets[:1]
	p.To = 30
	if l, _ := Incomplete(p); !slices.Equal(l, []int{1}) {
		t.Errorf("P52.1: Incomplete: %v", l)
	}
}

func TestCrossings(t *testing.T) {
	b := source(0, true, 1, 10, 2, 9, 3, 10, 4, 11, 5, 10, 6, 10, 7, 11, 8, 3).Buffer
	l, e := Crossings(3, b, []api.Threshold{{Kind: 2, Limit: 10}, {Kind: 1, Limit: 10, Rising: true}, {Kind: 5, Limit: 9}})
	want := []api.Record{{Kind: 5, Clock: 3, Time: 2}, {Kind: 1, Clock: 3, Time: 3}, {Kind: 2, Clock: 3, Time: 5}, {Kind: 2, Clock: 3, Time: 8}, {Kind: 5, Clock: 3, Time: 8}}
	if !slices.Equal(l, want) || e != api.OK {
		t.Errorf("P52.1: Crossings: %v %d", l, e)
	}
	for i, c := range []struct {
		source int
		b      api.Buffer
		rules  []api.Threshold
		want   api.Errno
	}{{12, api.Buffer{}, nil, api.ErrRange}, {0, api.Buffer{Capacity: 1, Frozen: true, Remaining: -1}, nil, api.ErrInvalid}, {0, b, make([]api.Threshold, 11), api.ErrTooLarge}, {0, b, make([]api.Threshold, 1), api.ErrRange}, {0, b, []api.Threshold{{Kind: 1, Limit: 1<<40 + 1}}, api.ErrRange}} {
		if _, e := Crossings(c.source, c.b, c.rules); e != c.want {
			t.Errorf("P52.1: Crossings, row %d: %d", i, e)
		}
	}
}

func TestErrors(t *testing.T) {
	busy := source(0, true)
	for i := range 14 {
		busy.Buffer.Samples = append(busy.Buffer.Samples, api.Measurement{At: i, Value: i % 2 * 20, Good: true})
	}
	for i, c := range []struct {
		change func(p *api.PostMortem)
		want   api.Errno
	}{
		{func(p *api.PostMortem) { p.Clocks = 0 }, api.ErrRange}, {func(p *api.PostMortem) { p.Offsets = []api.Offset{{Most: -1}}; p.Sources = nil }, api.ErrLost}, {func(p *api.PostMortem) { p.Sources = nil }, api.ErrEmpty}, {func(p *api.PostMortem) { p.Sources = make([]api.Source, 13) }, api.ErrTooLarge},
		{func(p *api.PostMortem) { p.Sources[0].Clock = 1 }, api.ErrRange}, {func(p *api.PostMortem) { p.Sources[0].Buffer.Frozen = false }, api.ErrInvalid}, {func(p *api.PostMortem) { p.Sources[0].Thresholds[0].Kind = 101 }, api.ErrRange}, {func(p *api.PostMortem) { p.Sources = []api.Source{busy} }, api.ErrTooLarge},
		{func(p *api.PostMortem) { p.Rules = make([]api.CausalRule, 31) }, api.ErrTooLarge}, {func(p *api.PostMortem) { p.Rules[0].Cause = 0 }, api.ErrRange}, {func(p *api.PostMortem) { p.From = 31 }, api.ErrRange}, {func(p *api.PostMortem) { p.To = 1<<40 + 1 }, api.ErrRange},
		{func(p *api.PostMortem) { p.Known = []int{101} }, api.ErrRange}, {func(p *api.PostMortem) { p.Known = []int{2, 2} }, api.ErrOrder}, {func(p *api.PostMortem) { p.Cleared = []int{2, 1} }, api.ErrOrder},
	} {
		p := example()
		c.change(&p)
		if _, e := Report(p); e != c.want {
			t.Errorf("P52.1: row %d: %d", i, e)
		}
	}
}
