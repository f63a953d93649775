package magnet

import (
	"math/rand"
	"slices"
	"testing"

	"betatron/api"
	"betatron/cycling"
	"betatron/exact"
	"betatron/expand"
	"betatron/hysteresis"
	"betatron/interval"
	"betatron/ratio"
	"betatron/sample"
	"betatron/samplebeam"
)

func spec() api.MagnetSpec {
	return api.MagnetSpec{Name: "q", Curve: api.Curve{Points: []api.Point{{X: 0, Y: 0}, {X: 100, Y: 1000}}}, Relays: []api.Relay{{Up: 60, Down: 20, Weight: 10}}, Error: 2}
}

func state(ones ...bool) api.Magnet { return api.Magnet{Relays: spec().Relays, Ones: ones} }

func text(i api.Interval) string { return sample.Text(i.Low, i.High) }

func times(s string) api.Ratio {
	var w exact.Work
	return w.Div(sample.Ratio(s), exact.Whole(unit))
}

var cycle = api.Cycle{Name: "c", Currents: []int{0, 100}, Repeat: 1, Final: 80}

func TestExamples(t *testing.T) {
	m := spec()
	low, e := Strength(m, 50, state(false))
	high, _ := Strength(m, 50, state(true))
	if text(low) != sample.Text(times("493"), times("497")) || text(high) != sample.Text(times("503"), times("507")) || e != api.OK {
		t.Errorf("P27.1: Strength: %s %s %d", text(low), text(high), e)
	}
	if i, e := Unknown(m, 50); text(i) != sample.Text(times("493"), times("507")) || e != api.OK {
		t.Errorf("P27.1: Unknown: %s %d", text(i), e)
	}
	if n, e := Setting(m, cycle, sample.Ratio("1/2000")); n != 49 || e != api.OK {
		t.Errorf("P27.1: Setting: %d %d", n, e)
	}
	if i, e := Sensitivity(m, 50, 3, state(true)); text(i) != sample.Text(times("473"), times("537")) || e != api.OK {
		t.Errorf("P27.1: Sensitivity: %s %d", text(i), e)
	}
	if i, _ := Sensitivity(m, 50, 0, state(true)); text(i) != text(high) {
		t.Errorf("P27.2: Sensitivity: %s", text(i))
	}
}

func TestConsequences(t *testing.T) {
	m := spec()
	m.Relays = []api.Relay{{Up: 60, Down: 20, Weight: 11}, {Up: 30, Down: 5, Weight: 4}}
	r := rand.New(rand.NewSource(14))
	for range 200 {
		s := api.Magnet{Relays: m.Relays, Ones: []bool{r.Intn(2) == 0, r.Intn(2) == 0}}
		for range 5 {
			current := r.Intn(101)
			s, _ = hysteresis.Apply(s, current)
			i, _ := Strength(m, current, s)
			u, _ := Unknown(m, current)
			if !interval.Contains(u, i.Low) || !interval.Contains(u, i.High) {
				t.Fatal("P27.2: Unknown")
			}
		}
		falls := r.Intn(2) == 0
		c := cycle
		if !falls {
			c = api.Cycle{Name: "c", Currents: []int{100, 0}, Repeat: 2, Final: 10}
		}
		wanted := exact.Fraction(r.Intn(1000), unit)
		n, e := Setting(m, c, wanted)
		if e != api.OK {
			continue
		}
		at, _ := middleStrength(m, c, n)
		if ratio.Cmp(at, wanted) > 0 {
			t.Fatal("P27.2: Setting")
		}
		low, high := settings(m.Curve, c)
		if n < low || n > high {
			t.Fatal("P27.1: Setting")
		}
		if n < high {
			if next, _ := middleStrength(m, c, n+1); ratio.Cmp(next, wanted) <= 0 {
				t.Fatal("P27.2: Setting")
			}
		}
	}
	// A final branch of 2^40 settings is searched at once.
	m.Curve.Points[1].X = 1 << 40
	huge := api.Cycle{Name: "c", Currents: []int{0, 1 << 40}, Repeat: 1, Final: 1<<40 - 1}
	if suits, _ := cycling.Suits(relays(m), huge); !suits {
		t.Error("P27.1: the cycle suits")
	}
	if n, e := Setting(m, huge, sample.Ratio("1/2000")); n < 1<<38 || e != api.OK {
		t.Errorf("P27.1: Setting: %d %d", n, e)
	}
}

func TestDress(t *testing.T) {
	b := samplebeam.Line("quad q strength 1/2 ; drift d length 1 ; sextupole s strength 3 ;", "q d s d q")
	dressed, e := Dress(b, []string{"s", "q"}, sample.Ratios("7 -1/3"))
	back, f := Strip(dressed, []string{"q", "s"})
	if sample.Text(back...) != "-1/3 7" || e != api.OK || f != api.OK || expand.Valid(dressed) != api.OK {
		t.Errorf("P27.2: Strip: %s %d %d", sample.Text(back...), e, f)
	}
	if l, _ := Strip(b, []string{"q"}); sample.Text(l...) != "1/2" {
		t.Error("rules: an argument was changed")
	}
	for i, c := range []struct {
		names     []string
		strengths string
		want      api.Errno
	}{
		{slices.Repeat([]string{"q"}, 11), "", api.ErrTooLarge}, {[]string{"x", "d"}, "", api.ErrNotFound}, {[]string{"d"}, "", api.ErrState}, {[]string{"q", "q"}, "", api.ErrExists},
		{[]string{"q"}, "", api.ErrRange}, {[]string{"q"}, "x", api.ErrInvalid}, {nil, "", 0},
	} {
		if _, e := Dress(b, c.names, sample.Ratios(c.strengths)); e != c.want {
			t.Errorf("P27.1: Dress, row %d: %d", i, e)
		}
	}
	if _, e := Strip(api.Beamline{}, nil); e != api.ErrEmpty {
		t.Errorf("P27.1: Strip: %d", e)
	}
}

func TestErrors(t *testing.T) {
	for i, c := range []struct {
		change func(m *api.MagnetSpec)
		want   api.Errno
	}{
		{func(m *api.MagnetSpec) { m.Name = "Q" }, api.ErrSyntax}, {func(m *api.MagnetSpec) { m.Curve.Points = nil }, api.ErrEmpty}, {func(m *api.MagnetSpec) { m.Relays = nil; m.Error = -1 }, api.ErrEmpty},
		{func(m *api.MagnetSpec) { m.Error = -1 }, api.ErrRange}, {func(m *api.MagnetSpec) { m.Error = 1<<40 + 1 }, api.ErrRange}, {func(m *api.MagnetSpec) {}, 0},
	} {
		m := spec()
		c.change(&m)
		if e := Valid(m); e != c.want {
			t.Errorf("P27.1: Valid, row %d: %d", i, e)
		}
	}
	m := spec()
	other := api.Magnet{Relays: []api.Relay{{Up: 61, Down: 20, Weight: 10}}, Ones: []bool{true}}
	for i, c := range []struct {
		current, uncertainty int
		state                api.Magnet
		want                 api.Errno
	}{
		{1<<40 + 1, 0, state(), api.ErrInvalid}, {1<<40 + 1, 0, other, api.ErrConflict}, {1<<40 + 1, 0, state(true), api.ErrRange}, {101, 0, state(true), api.ErrRange},
		{50, -1, state(true), api.ErrRange}, {50, 51, state(true), api.ErrRange}, {50, 50, state(true), 0}, {50, 1<<40 + 1, state(true), api.ErrRange},
	} {
		if _, e := Sensitivity(m, c.current, c.uncertainty, c.state); e != c.want {
			t.Errorf("P27.1: Sensitivity, row %d: %d", i, e)
		}
		if _, e := Strength(m, c.current, c.state); c.uncertainty == 0 && e != c.want {
			t.Errorf("P27.1: Strength, row %d: %d", i, e)
		}
	}
	if _, e := Unknown(m, -1); e != api.ErrRange {
		t.Errorf("P27.1: Unknown: %d", e)
	}
	falling := spec()
	falling.Curve.Points[1].Y = -1000
	level := spec()
	level.Curve.Points[1].Y = 0
	for i, c := range []struct {
		m        api.MagnetSpec
		c        api.Cycle
		strength string
		want     api.Errno
	}{
		{m, api.Cycle{}, "x", api.ErrSyntax}, {m, cycle, "x", api.ErrInvalid}, {falling, cycle, "0", api.ErrState}, {level, cycle, "0", api.ErrState}, {m, api.Cycle{Name: "c", Currents: []int{30, 40}, Repeat: 1, Final: 35}, "0", api.ErrState},
		{m, cycle, "-1", api.ErrRange}, {m, api.Cycle{Name: "c", Currents: []int{500, 600}, Repeat: 1, Final: 550}, "1", api.ErrRange},
	} {
		if _, e := Setting(c.m, c.c, sample.Ratio(c.strength)); e != c.want {
			t.Errorf("P27.1: Setting, row %d: %d", i, e)
		}
	}
}
