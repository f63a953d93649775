package tracking

import (
	"slices"
	"testing"

	"betatron/api"
	"betatron/exact"
	"betatron/ratio"
	"betatron/sample"
	"betatron/samplebeam"
	"betatron/transfer"
)

const parts = "quad qf length 1/3 strength 1/2 ; quad qd strength - 1/2 ; drift d length 1 ; drift f length 1/2 ; sextupole s strength 2 ; corrector c plane h ; kicker k plane v ; collimator a aperture 1/1000 ; "

func particle(x, xp, y, yp int) api.Particle {
	return api.Particle{X: x, XP: xp, Y: y, YP: yp, Lost: -1}
}

func TestExamples(t *testing.T) {
	b := samplebeam.Line(parts, "f s a c k")
	for i, c := range []struct {
		place   int
		q, want api.Particle
	}{
		{0, particle(10, 3, -10, -3), particle(12, 3, -11, -3)},
		{1, particle(95000, 0, 0, 0), particle(95000, -9, 0, 0)},
		{1, particle(30000, 5, 20000, 5), particle(30000, 5, 20000, 6)},
		{2, particle(1000000, 0, 0, 0), particle(1000000, 0, 0, 0)},
		{2, particle(1000001, 0, 0, 0), api.Particle{X: 1000001, Lost: 2}},
		{2, particle(0, 0, -1000001, 0), api.Particle{Y: -1000001, Lost: 2}},
		{3, particle(1, 2, 3, 4), particle(1, 102, 3, 4)},
		{4, particle(1, 2, 3, 4), particle(1, 2, 3, -46)},
		{0, api.Particle{X: 5, XP: 7, Lost: 3}, api.Particle{X: 5, XP: 7, Lost: 3}},
		{0, particle(most, most, 0, 0), api.Particle{X: most, XP: most, Lost: 0}},
	} {
		q, e := Step(b.Places[c.place], c.place, c.q, []int{0, 0, 0, 100, -50})
		if q != c.want || e != api.OK {
			t.Errorf("P20.1: row %d: %v %d", i, q, e)
		}
	}
}

// P20.2: a tracked particle stays close to the exact vector; slow and fast rows agree.
func TestRounding(t *testing.T) {
	for _, lengths := range []string{"1/3", "12345678901/12345678902"} {
		b := samplebeam.Line("quad q length "+lengths+" strength 1/2 ; drift d length 1 ; bend b length 1 strength 1/5 radius 3 ; quad r strength - 1/3 ;", "q d b r d")
		q := api.Particle{X: 123456, XP: -7890, Y: -45678, YP: 999, Deviation: 37, Lost: -1}
		end, e := Track(b, q, make([]int, 5), 1)
		if e != api.OK || end.Turn != 1 || end.Lost != -1 {
			t.Fatalf("P20.1: Track: %v %d", end, e)
		}
		for plane, c := range [][4]int{{q.X, q.XP, end.X, end.XP}, {q.Y, q.YP, end.Y, end.YP}} {
			l, _ := transfer.Trace(b, plane+1, []api.Ratio{exact.Whole(c[0]), exact.Whole(c[1]), exact.Whole(37000)})
			bound, _ := RoundingBound(b, plane+1)
			var w exact.Work
			for i := range 2 {
				if ratio.Cmp(exact.Abs(w.Sub(l[5][i], exact.Whole(c[2+i]))), bound) > 0 {
					t.Errorf("P20.2: plane %d differs by more than %s", plane+1, sample.Text(bound))
				}
			}
		}
	}
	if bound, e := RoundingBound(samplebeam.Line(parts, "d c f"), 1); sample.Text(bound) != "5/4" || e != api.OK {
		t.Errorf("P20.1: RoundingBound: %s %d", sample.Text(bound), e)
	}
}

func TestTurns(t *testing.T) {
	b := samplebeam.Line(parts, "qf d s qd a d c")
	angles := []int{0, 0, 0, 0, 0, 0, 40}
	l := []api.Particle{particle(1000, 0, 500, 0), particle(5000000, 0, 0, 0), particle(700000, 400000, 0, 0), {X: 3, Lost: 6}}
	three, e := Bunch(b, l, angles, 3)
	two, _ := Bunch(b, l, angles, 2)
	again, _ := Bunch(b, two, angles, 1)
	if e != api.OK || !slices.Equal(three, again) || three[0].Turn != 3 || three[1].Lost != 4 || three[1].Turn != 0 || three[3] != l[3] {
		t.Errorf("P20.2: Bunch: %v %d", three, e)
	}
	for i, q := range l {
		if single, _ := Track(b, q, angles, 3); single != three[i] {
			t.Errorf("P20.1: Track: %v", single)
		}
	}
	losses, e := Losses(b, three)
	sum := 0
	for _, n := range losses {
		sum += n
	}
	if e != api.OK || len(losses) != 7 || losses[6] != 1 || sum != 3 {
		t.Errorf("P20.2: Losses: %v %d", losses, e)
	}
	entering, e := Turns(b, l[0], angles, 3, 4)
	if e != api.OK || len(entering) != 4 || entering[2].Turn != 2 {
		t.Errorf("P20.1: Turns: %v %d", entering, e)
	}
	atStart, _ := Turns(b, l[0], angles, 0, 4)
	if atStart[0] != l[0] || atStart[3] != three[0] {
		t.Errorf("P20.1: Turns: %v", atStart)
	}
	if lost, e := Turns(b, l[1], angles, 5, 4); len(lost) != 0 || e != api.OK {
		t.Errorf("P20.1: Turns of a lost particle: %v", lost)
	}
	if before, _ := Turns(b, l[1], angles, 4, 4); len(before) != 1 {
		t.Errorf("P20.1: Turns of a lost particle: %v", before)
	}
}

func TestCentre(t *testing.T) {
	x, y, n, e := Centre([]api.Particle{particle(1, 0, -1, 0), particle(2, 0, -2, 0), {X: 99, Lost: 1}})
	if x != 2 || y != -1 || n != 2 || e != api.OK {
		t.Errorf("P20.1: Centre: %d %d %d %d", x, y, n, e)
	}
	if _, _, _, e := Centre([]api.Particle{{Lost: 1}}); e != api.ErrEmpty {
		t.Errorf("P20.1: Centre: %d", e)
	}
	if _, _, _, e := Centre(make([]api.Particle, 51)); e != api.ErrTooLarge {
		t.Errorf("P20.1: Centre: %d", e)
	}
}

func TestErrors(t *testing.T) {
	b := samplebeam.Line(parts, "d s")
	good := particle(0, 0, 0, 0)
	for i, c := range []struct {
		change func(q *api.Particle)
	}{
		{func(q *api.Particle) { q.X = most + 1 }}, {func(q *api.Particle) { q.YP = -most - 1 }}, {func(q *api.Particle) { q.Deviation = 1000001 }},
		{func(q *api.Particle) { q.Lost = -2 }}, {func(q *api.Particle) { q.Lost = 200 }}, {func(q *api.Particle) { q.Turn = -1 }}, {func(q *api.Particle) { q.Turn = 1000000 }},
	} {
		q := good
		c.change(&q)
		if _, e := Track(b, q, []int{0, 0}, 1); e != api.ErrRange {
			t.Errorf("P20.1: Track, row %d: %d", i, e)
		}
	}
	if _, e := Track(b, good, []int{0}, 1); e != api.ErrRange {
		t.Errorf("P20.1: Track: %d", e)
	}
	if _, e := Track(b, good, []int{0, most + 1}, 1); e != api.ErrRange {
		t.Errorf("P20.1: Track: %d", e)
	}
	if _, e := Track(b, good, []int{0, 0}, 201); e != api.ErrRange {
		t.Errorf("P20.1: Track: %d", e)
	}
	if _, e := Bunch(b, make([]api.Particle, 51), []int{0, 0}, 0); e != api.ErrTooLarge {
		t.Errorf("P20.1: Bunch: %d", e)
	}
	if _, e := Turns(b, good, []int{0, 0}, 2, 1); e != api.ErrRange {
		t.Errorf("P20.1: Turns: %d", e)
	}
	if _, e := Losses(b, []api.Particle{{Lost: 2}}); e != api.ErrRange {
		t.Errorf("P20.1: Losses: %d", e)
	}
	if _, e := RoundingBound(b, 1); e != api.ErrState {
		t.Errorf("P20.1: RoundingBound: %d", e)
	}
	if _, e := RoundingBound(b, 0); e != api.ErrRange {
		t.Errorf("P20.1: RoundingBound: %d", e)
	}
	if _, e := Step(b.Places[0], 1, good, []int{0}); e != api.ErrRange {
		t.Errorf("P20.1: Step: %d", e)
	}
	if _, e := Step(api.Place{}, 0, good, []int{0}); e != api.ErrSyntax {
		t.Errorf("P20.1: Step: %d", e)
	}
}
