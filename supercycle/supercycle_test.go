package supercycle

import (
	"math/rand"
	"slices"
	"strings"
	"testing"

	"betatron/api"
)

func example(forbidden ...api.Pair) api.Timetable {
	return api.Timetable{
		Cycles: []api.CycleSpec{{Name: "a", User: "u", Length: 10, Injects: true}, {Name: "b", User: "v", Length: 5}},
		Counts: []int{2, 1}, Forbidden: forbidden, Recovery: 12,
	}
}

func TestExamples(t *testing.T) {
	p := example()
	for _, c := range []struct {
		order  []int
		length int
	}{{[]int{0, 0, 1}, 27}, {[]int{0, 1, 0}, 25}, {[]int{1, 0, 0}, 27}} {
		if n, e := Check(p, c.order); n != c.length || e != api.OK {
			t.Errorf("P33.1: Check of %v: %d %d", c.order, n, e)
		}
	}
	if l, n, e := Plan(p); !slices.Equal(l, []int{0, 1, 0}) || n != 25 || e != api.OK {
		t.Errorf("P33.1: Plan: %v %d %d", l, n, e)
	}
	if l, n, e := Plan(example(api.Pair{A: 0, B: 1})); !slices.Equal(l, []int{1, 0, 0}) || n != 27 || e != api.OK {
		t.Errorf("P33.1: Plan: %v %d %d", l, n, e)
	}
	l, e := Events(p, []int{0, 1, 0}, []api.EventDef{{Number: 3, Name: "x", Offset: 7}})
	if len(l) != 3 || l[1] != (api.Event{At: 10000007, Number: 3, Cycle: 1}) || l[2].At != 15000007 || e != api.OK {
		t.Errorf("P33.1: Events: %v %d", l, e)
	}
	none := example(api.Pair{A: 0, B: 0}, api.Pair{A: 0, B: 1})
	if _, _, e := Plan(none); e != api.ErrNone {
		t.Errorf("P33.1: Plan: %d", e)
	}
	if proof, e := Prove(none); e != api.OK || !CheckProof(none, 1000000, proof) {
		t.Errorf("P33.2: Prove: %d", e)
	}
}

// orders calls f with all orders that have the counts.
func orders(counts, order []int, f func(order []int)) {
	if slices.Max(counts) == 0 {
		f(order)
		return
	}
	for i := range counts {
		if counts[i] > 0 {
			counts[i]--
			orders(counts, append(order, i), f)
			counts[i]++
		}
	}
}

func TestConsequences(t *testing.T) {
	r := rand.New(rand.NewSource(20))
	for range 60 {
		var p api.Timetable
		p.Recovery = r.Intn(40)
		for i := range r.Intn(3) + 1 {
			p.Cycles = append(p.Cycles, api.CycleSpec{Name: string(rune('a' + i)), User: "u", Length: r.Intn(20) + 1, Injects: r.Intn(2) == 0})
			p.Counts = append(p.Counts, r.Intn(2)+1)
			p.Forbidden = append(p.Forbidden, api.Pair{A: i, B: r.Intn(i + 1)})
		}
		best, length := []int(nil), 0
		orders(slices.Clone(p.Counts), nil, func(order []int) {
			if n, e := Check(p, order); e == api.OK && (best == nil || n < length) {
				best, length = slices.Clone(order), n
			}
		})
		l, n, e := Plan(p)
		if !slices.Equal(l, best) || n != length || (best == nil) != (e == api.ErrNone) {
			t.Fatalf("P33.2: %v and %v", l, best)
		}
		proof, e := Prove(p)
		if best == nil {
			length = 1000000
		}
		if e != api.OK || !CheckProof(p, length, proof) || CheckProof(p, length+1, proof) || CheckProof(p, length, proof[1:]) || CheckProof(p, length, nil) {
			t.Fatalf("P33.2: Prove: %d", e)
		}
		raised := slices.Clone(proof)
		for i := range raised {
			raised[i].Value++
		}
		if best != nil && CheckProof(p, length+1, raised) {
			t.Fatal("P33.2: a proof of too much")
		}
		text, e := Format(p)
		back, line, f := Parse(strings.ReplaceAll(text, " ", "\n"))
		again, _ := Format(back)
		if e != api.OK || f != api.OK || line != 0 || again != text {
			t.Fatalf("P33.2: %q: %d %d", text, line, f)
		}
	}
}

func TestText(t *testing.T) {
	want := "cycle a user u length 10 count 2 injects ;\ncycle b user v length 5 count 1 ;\nforbid a b ;\nrecovery 12 ;\n"
	if text, _ := Format(example(api.Pair{A: 0, B: 1})); text != want {
		t.Errorf("P33.1: Format: %s", text)
	}
	for i, c := range []struct {
		s    string
		line int
		e    api.Errno
	}{
		{"", 1, api.ErrSyntax}, {"recovery 5 ;", 0, api.ErrEmpty}, {"recovery 5", 1, api.ErrSyntax}, {"cycle a user u length 1/2 count 1 ; recovery 5 ;", 1, api.ErrSyntax}, {"cycle a user u length 4/2 count 1 ; recovery 5 ;", 0, 0},
		{"cycle a user u length 1 count 1 ;\nforbid a\nc ; recovery 1 ;", 3, api.ErrSyntax}, {"recovery 1 ;\ncycle a user u length 1 count 1 ;", 2, api.ErrSyntax}, {"cycle a user u length 1 count 1 ; cycle a user u length 1 count 1 ; recovery 1 ;", 0, api.ErrExists},
		{"cycle a user u length 1 count 1 ; forbid a a ; forbid a a ; recovery 1 ;", 0, api.ErrExists}, {"cycle a user u length 1 count 5 ; recovery 1 ;", 0, api.ErrRange}, {"\n$", 2, api.ErrSyntax}, {"cycle a user u length 1 count 1 injects injects ; recovery 1 ;", 1, api.ErrSyntax},
	} {
		if p, line, e := Parse(c.s); line != c.line || e != c.e || e != api.OK && p.Cycles != nil {
			t.Errorf("P33.1: Parse, row %d: %d %d", i, line, e)
		}
	}
}

func TestErrors(t *testing.T) {
	for i, c := range []struct {
		change func(p *api.Timetable)
		want   api.Errno
	}{
		{func(p *api.Timetable) { p.Cycles = nil }, api.ErrEmpty}, {func(p *api.Timetable) { p.Cycles = make([]api.CycleSpec, 7) }, api.ErrTooLarge}, {func(p *api.Timetable) { p.Cycles[1].User = "U" }, api.ErrSyntax},
		{func(p *api.Timetable) { p.Cycles[1].Name = "a"; p.Cycles[1].Length = 0 }, api.ErrExists}, {func(p *api.Timetable) { p.Cycles[1].Length = 201 }, api.ErrRange}, {func(p *api.Timetable) { p.Counts = []int{1} }, api.ErrRange},
		{func(p *api.Timetable) { p.Counts = []int{0, 0} }, api.ErrRange}, {func(p *api.Timetable) { p.Counts = []int{5, 0} }, api.ErrRange}, {func(p *api.Timetable) { p.Forbidden = make([]api.Pair, 37) }, api.ErrTooLarge},
		{func(p *api.Timetable) { p.Forbidden = []api.Pair{{A: 0, B: 2}} }, api.ErrRange}, {func(p *api.Timetable) { p.Forbidden = make([]api.Pair, 2) }, api.ErrExists}, {func(p *api.Timetable) { p.Recovery = 1001 }, api.ErrRange}, {func(p *api.Timetable) {}, 0},
	} {
		p := example()
		c.change(&p)
		if e := Valid(p); e != c.want {
			t.Errorf("P33.1: row %d: %d", i, e)
		}
	}
	for _, order := range [][]int{nil, {0, 1}, {0, 1, 2}, {0, 0, 0}, {0, 1, 0, 1}, {-1}} {
		if _, e := Check(example(), order); e != api.ErrInvalid {
			t.Errorf("P33.1: Check of %v: %d", order, e)
		}
		if _, e := Events(example(), order, nil); e != api.ErrInvalid {
			t.Errorf("P33.1: Events of %v: %d", order, e)
		}
	}
	if _, e := Events(example(), []int{0, 0, 1}, make([]api.EventDef, 1)); e != api.ErrRange {
		t.Errorf("P33.1: Events: %d", e)
	}
	var many api.Timetable
	many.Recovery = 1000
	for i := range 6 {
		many.Cycles = append(many.Cycles, api.CycleSpec{Name: string(rune('a' + i)), User: "u", Length: 1 << i, Injects: i == 0})
		many.Counts = append(many.Counts, 1+i%3/2)
	}
	proof, e := Prove(many)
	_, n, _ := Plan(many)
	if e != api.OK || !CheckProof(many, n, proof) {
		t.Errorf("P33.1: Prove: %d", e)
	}
}
