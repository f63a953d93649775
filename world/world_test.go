package world

import (
	"math/rand"
	"slices"
	"strings"
	"testing"

	"betatron/api"
	"betatron/exact"
	"betatron/magnet"
	"betatron/protection"
	"betatron/sample"
	"betatron/verdict"
)

func step(kind int, l ...int) api.WorldStep {
	s := api.WorldStep{Kind: kind}
	if len(l) > 0 {
		s.A = l[0]
	}
	if len(l) > 1 {
		s.B = l[1]
	}
	return s
}

func changeTo(mode string) api.WorldStep { return api.WorldStep{Kind: 4, Text: mode} }

func do(t *testing.T, w api.World, l ...api.WorldStep) api.World {
	t.Helper()
	for i, s := range l {
		next, e := Do(w, s)
		if e != api.OK || Valid(next) != api.OK {
			t.Fatalf("step %d (%v): %d, valid %d", i, s, e, Valid(next))
		}
		w = next
	}
	return w
}

// ready returns a world with beam.
func ready(t *testing.T, variant int) api.World {
	t.Helper()
	w, _ := New(variant)
	w = do(t, w, step(8, 1), step(8, 50), step(8, 2), step(8, 3), step(1, 0, 1), step(1, 0, 2), step(1, 1, 1), step(1, 1, 2), step(2, 500, 500), step(3, 2))
	return do(t, w, changeTo("setup"), step(6), step(5, 2))
}

func status(t *testing.T, w api.World) string {
	t.Helper()
	l, e := Status(w)
	if e != api.OK {
		t.Fatalf("Status: %d", e)
	}
	return strings.Join(l, "\n")
}

func TestExamples(t *testing.T) {
	w := ready(t, 0)
	if n, e := Beam(w); n != 2 || e != api.OK || w.Bunch[1] != (api.Particle{X: 200000, Y: -100000, Lost: -1}) {
		t.Errorf("P59.1: Beam: %d %d", n, e)
	}
	facts, _ := Facts(w)
	if !slices.Equal(facts, []api.Fact{{Subsystem: "converters", State: "on"}, {Subsystem: "zone", State: "closed"}, {Subsystem: "permit", State: "given"}, {Subsystem: "beam", State: "in"}, {Subsystem: "optics", State: "stable"}}) {
		t.Errorf("P59.1: Facts: %v", facts)
	}
	if s := status(t, w); s != "mode setup\nnow 14\nconverter qf on 500 500\nconverter qd on 500 500\nkick 0\nzone closed\nbeam 2\npermit yes\ndump none" {
		t.Errorf("P59.1: Status: %s", s)
	}
	w = do(t, w, step(10, 1))
	if !w.Protection.Beam || w.Protection.Dump != 1 || w.Bunch[0].Turn != 1 {
		t.Errorf("P59.1: a leak: %v", w.Protection)
	}
	w = do(t, w, step(3, 1))
	if w.Protection.Beam || len(w.Bunch) != 0 || !w.Dumped || w.DumpAt != 16 {
		t.Errorf("P59.1: the dump: %v", w)
	}
	if _, e := Do(w, step(6)); e != api.ErrState {
		t.Errorf("P59.1: arm: %d", e)
	}
	w = do(t, w, step(3, 3))
	if !w.Buffers[0].Frozen || !strings.HasSuffix(status(t, w), "beam 0\npermit no: latch a, latch b, s0\ndump at 16") {
		t.Errorf("P59.1: %s", status(t, w))
	}
	p, e := PostMortem(w)
	cause, f := verdict.Cause(p)
	records, _ := verdict.Records(p)
	if e+f != 0 || len(cause) != 1 || records[cause[0]].Kind != 1 || p.From != 14 || p.To != 16 || !slices.Equal(p.Cleared, []int{2, 3}) {
		t.Errorf("P59.1: PostMortem: %v %v %d %d", records, cause, e, f)
	}
	w = do(t, w, step(10, 2), step(6))
	if w.Dumped || w.DumpAt != 0 || len(w.Buffers[3].Samples) != 1 || w.Buffers[3].Samples[0].Value != 0 {
		t.Errorf("P59.1: arm: %v", w.Buffers)
	}
	if _, e := PostMortem(w); e != api.ErrNone {
		t.Errorf("P59.1: PostMortem: %d", e)
	}
}

func TestVariants(t *testing.T) {
	for variant := range 4 {
		w := ready(t, variant)
		b, l, e := Optics(w)
		strengths, f := magnet.Strip(b, []string{"qf", "qd"})
		length := map[bool]string{true: "2", false: "1"}[variant < 2]
		if e+f != 0 || len(b.Places) != 7 || sample.Text(b.Places[6].To) != length {
			t.Fatalf("P59.1: Optics: %d %d", e, f)
		}
		var work exact.Work
		for i, s := range strengths {
			if !exact.Same(s, work.Div(work.Add(l[i].Low, l[i].High), exact.Whole(2))) {
				t.Errorf("P59.2: the strength %s", sample.Text(s))
			}
		}
		want := map[bool]string{true: "501/1000 -499/1000", false: "63/125 -62/125"}[variant%2 == 0]
		if sample.Text(strengths...) != want {
			t.Errorf("P59.1: strengths of the variant %d: %s", variant, sample.Text(strengths...))
		}
		removal := 1 + variant%2
		for _, s := range []api.WorldStep{step(10, 1), step(7), step(1, 0, api.CommandTrip), step(10, 3, 8)} {
			gone := do(t, w, s, step(3, removal))
			if gone.Protection.Beam || !gone.Dumped {
				t.Errorf("P59.2: variant %d: beam behind %v", variant, s)
			}
		}
		late := do(t, w, step(7))
		if !late.Protection.Beam {
			t.Error("P59.1: the removal takes time")
		}
	}
	if _, e := New(4); e != api.ErrRange {
		t.Errorf("P59.1: New: %d", e)
	}
	if _, e := New(-1); e != api.ErrRange {
		t.Errorf("P59.1: New: %d", e)
	}
}

func TestSteps(t *testing.T) {
	fresh, _ := New(0)
	w := ready(t, 0)
	dumped := do(t, w, step(7), step(3, 1))
	for i, c := range []struct {
		w    api.World
		s    api.WorldStep
		want api.Errno
	}{
		{fresh, step(0), api.ErrInvalid}, {fresh, step(12), api.ErrInvalid}, {fresh, step(1, 2, 9), api.ErrRange}, {fresh, step(1, 0, 3), api.ErrInvalid}, {fresh, step(1, 0, 9), api.ErrInvalid}, {fresh, step(1, 0, 2), api.ErrState}, {fresh, step(2, 0, 0), api.ErrState}, {w, step(2, 400, 1001), api.ErrRange}, {w, step(2, 400, 600), 0},
		{w, step(3, 0), api.ErrRange}, {w, step(3, 11), api.ErrRange}, {fresh, changeTo("x"), api.ErrNotFound}, {fresh, changeTo("physics"), api.ErrState}, {fresh, changeTo("setup"), api.ErrConflict}, {fresh, changeTo("access"), 0}, {w, changeTo("physics"), 0}, {fresh, step(5, 0), api.ErrRange}, {w, step(5, 5), api.ErrRange}, {w, step(5, 1), api.ErrState},
		{fresh, step(5, 1), api.ErrDenied}, {dumped, step(6), api.ErrState}, {fresh, step(6), api.ErrState}, {fresh, step(8, 3), api.ErrState}, {fresh, step(9, 2, 2), api.ErrInvalid}, {fresh, step(9, 0, 1), api.ErrDenied}, {fresh, step(9, 3, 1), api.ErrRange}, {fresh, step(9, 2, 0), api.ErrNotFound}, {fresh, step(9, 2, 1), 0},
		{fresh, step(10, 5), api.ErrInvalid}, {fresh, step(10, 3, 12), api.ErrRange}, {fresh, step(10, 3, -1), api.ErrRange}, {fresh, step(10, 3, 11), 0}, {fresh, step(10, 4), 0}, {fresh, step(11, 1000000001), api.ErrRange}, {fresh, step(11, -1000000000), 0},
	} {
		next, e := Do(c.w, c.s)
		if e != c.want || e == api.OK && (next.Now <= c.w.Now || Valid(next) != api.OK) {
			t.Errorf("P59.1: row %d: %d", i, e)
		}
	}
	armed := do(t, dumped, step(3, 3), step(6))
	off := do(t, armed, changeTo("off"))
	if _, e := Do(off, step(5, 1)); e != api.ErrDenied {
		t.Errorf("P59.2: inject in off: %d", e)
	}
	// A transaction with one target out of range changes nothing.
	after, failed, e := Run(w, []api.WorldStep{step(3, 1), step(2, 400, 2000), step(3, 1)})
	if failed != 1 || e != api.OK || after.Now != w.Now+1 || after.Converters[0].Target != 500 {
		t.Errorf("P59.2: Run: %d %d", failed, e)
	}
	if _, failed, e := Run(w, []api.WorldStep{step(3, 1)}); failed != -1 || e != api.OK {
		t.Errorf("P59.1: Run: %d %d", failed, e)
	}
	if _, _, e := Run(w, make([]api.WorldStep, 11)); e != api.ErrTooLarge {
		t.Errorf("P59.1: Run: %d", e)
	}
	late := fresh
	late.Now, late.Protection.Now = 899991, 899991
	if _, e := Do(late, step(3, 1)); e != api.ErrFull {
		t.Errorf("P59.1: Do: %d", e)
	}
	late.Now, late.Protection.Now = 899990, 899990
	if next, e := Do(late, step(3, 10)); e != api.OK || Valid(next) != api.OK {
		t.Errorf("P59.1: Do: %d", e)
	}
}

func TestLosses(t *testing.T) {
	w := ready(t, 0)
	// A great kick loses the particles at the collimator; losses are bad if more than one is lost at a time.
	w = do(t, w, step(11, 100000000))
	for range 3 {
		w = do(t, w, step(3, 1))
	}
	if n, _ := Beam(w); n != 0 || !w.Dumped && w.Protection.Beam && w.Bunch[0].Lost < 0 {
		t.Errorf("P59.1: losses: %v", w.Bunch)
	}
	w = do(t, w, step(3, 5))
	if w.Lost != 0 {
		t.Errorf("P59.1: Lost without beam: %d", w.Lost)
	}
}

func TestRandom(t *testing.T) {
	r := rand.New(rand.NewSource(43))
	for variant := range 4 {
		for range 4 {
			w := ready(t, variant)
			config := configuration(variant)
			for range 60 {
				s := step(r.Intn(11)+1, r.Intn(4), r.Intn(4))
				switch s.Kind {
				case 2:
					s.A, s.B = r.Intn(1100), r.Intn(1100)
				case 4:
					s.Text = []string{"off", "setup", "physics", "access"}[r.Intn(4)]
				case 8:
					s.A = []int{1, 2, 3, 4, 6, 30, 40, 50}[r.Intn(8)]
				case 11:
					s.A = r.Intn(2000000) - 1000000
				}
				before, _ := Facts(w)
				next, e := Do(w, s)
				if e != api.OK {
					continue
				}
				if Valid(next) != api.OK || next.Now <= w.Now {
					t.Fatalf("P59.2: %v: %d", s, Valid(next))
				}
				if next.Protection.Beam && !w.Protection.Beam {
					permitted, reasons, _ := protection.Permit(config, next.Protection)
					if s.Kind != 5 || w.Mode != "setup" && w.Mode != "physics" || before[1].State != "closed" || !permitted {
						t.Fatalf("P3: beam behind %v in %s: %v", s, w.Mode, reasons)
					}
				}
				w = next
			}
		}
	}
}

func TestErrors(t *testing.T) {
	for i, c := range []struct {
		change func(w *api.World)
		want   api.Errno
	}{
		{func(w *api.World) {}, 0}, {func(w *api.World) { w.Variant = 4 }, api.ErrRange}, {func(w *api.World) { w.Now = -1 }, api.ErrRange}, {func(w *api.World) { w.Kick = 1000000001 }, api.ErrRange}, {func(w *api.World) { w.Lost = 5 }, api.ErrRange}, {func(w *api.World) { w.DumpAt = 1 }, api.ErrRange}, {func(w *api.World) { w.Dumped = true; w.DumpAt = 15 }, api.ErrRange}, {func(w *api.World) { w.Dumped = true; w.DumpAt = 14 }, 0},
		{func(w *api.World) { w.Converters = w.Converters[1:] }, api.ErrInvalid}, {func(w *api.World) { w.Converters[0].Maximum = 1001 }, api.ErrInvalid}, {func(w *api.World) { w.Converters[0].Target = 400 }, api.ErrInvalid}, {func(w *api.World) { w.Magnets = nil }, api.ErrInvalid}, {func(w *api.World) { w.Magnets[0].Relays[0].Up = 301 }, api.ErrInvalid}, {func(w *api.World) { w.Mode = "x" }, api.ErrInvalid},
		{func(w *api.World) { w.Bunch = nil }, api.ErrInvalid}, {func(w *api.World) { w.Bunch = make([]api.Particle, 5) }, api.ErrInvalid}, {func(w *api.World) { w.Bunch[0].Lost = 7 }, api.ErrInvalid}, {func(w *api.World) { w.Bunch[0].Lost = 6 }, 0}, {func(w *api.World) { w.Bunch[0].Turn = 15 }, api.ErrInvalid}, {func(w *api.World) { w.Bunch[0].Lost = -2 }, api.ErrInvalid}, {func(w *api.World) { w.Protection.Beam = false }, api.ErrInvalid},
		{func(w *api.World) { w.Protection.Now = 13 }, api.ErrInvalid}, {func(w *api.World) { w.Protection.Dump = 2 }, api.ErrInvalid}, {func(w *api.World) { w.Buffers = w.Buffers[1:] }, api.ErrInvalid}, {func(w *api.World) { w.Buffers[0].Capacity = 19 }, api.ErrInvalid}, {func(w *api.World) { w.Buffers[0].Samples[0].At = 15 }, api.ErrInvalid}, {func(w *api.World) { w.Buffers[0].Frozen = true }, api.ErrInvalid},
	} {
		w := own(ready(t, 0))
		c.change(&w)
		if _, e := Status(w); e != c.want {
			t.Errorf("P59.1: row %d: %d", i, e)
		}
	}
	w := ready(t, 0)
	p := do(t, w, step(3, 1))
	p.Buffers[0].Samples[0].Value = 77
	p.Bunch[0].X = 5
	if w.Buffers[0].Samples[0].Value != 0 || w.Bunch[0].X != 100000 {
		t.Error("rules: shared memory")
	}
}
