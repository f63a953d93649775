package causes

import (
	"math/rand"
	"slices"
	"testing"

	"betatron/api"
)

var two = []api.Offset{{A: 1, B: 0, Most: 30}, {A: 0, B: 1, Most: -20}}

func TestExamples(t *testing.T) {
	a, b, c := api.Record{Kind: 1, Clock: 0, Time: 100}, api.Record{Kind: 2, Clock: 1, Time: 135}, api.Record{Kind: 2, Clock: 1, Time: 125}
	for i, k := range []struct {
		a, b api.Record
		want int
	}{{a, b, -1}, {b, a, 1}, {a, c, 0}, {a, a, 0}} {
		if o, e := Order(2, two, k.a, k.b); o != k.want || e != api.OK {
			t.Errorf("P50.1: Order, row %d: %d %d", i, o, e)
		}
	}
	for i, k := range []struct {
		least, most int
		may         []int
		want        [][]int
	}{{10, 12, []int{0}, [][]int{{0}}}, {16, 20, nil, [][]int{{0, 1}}}, {15, 15, []int{0}, [][]int{{0}}}, {0, 4, nil, [][]int{{0, 1}}}} {
		rules := []api.CausalRule{{Cause: 1, Effect: 2, Least: k.least, Most: k.most}}
		l, e := Explanations(2, two, rules, []api.Record{a, b})
		may, f := May(2, two, rules, []api.Record{a, b})
		if !slices.EqualFunc(l, k.want, slices.Equal[[]int]) || e != api.OK || !slices.Equal(may[1], k.may) || len(may[0]) != 0 || f != api.OK {
			t.Errorf("P50.1: row %d: %v %v %d", i, l, may, e)
		}
	}
	if l, _ := Possible(2, two, []api.Record{b, a, c}); !slices.Equal(l, []int{1, 2}) {
		t.Errorf("P50.1: Possible: %v", l)
	}
	if i, e := Certain(2, two, []api.Record{b, a}); i != 1 || e != api.OK {
		t.Errorf("P50.1: Certain: %d %d", i, e)
	}
	if _, e := Certain(2, two, []api.Record{a, c}); e != api.ErrNone {
		t.Errorf("P50.1: Certain: %d", e)
	}
	if i, e := Certain(2, two, []api.Record{c}); i != 0 || e != api.OK {
		t.Errorf("P50.1: Certain: %d %d", i, e)
	}
	if _, e := Certain(2, two, nil); e != api.ErrNone {
		t.Errorf("P50.1: Certain: %d", e)
	}
	if l, e := Sequence(2, two, []api.Record{b, c, a}); !slices.Equal(l, []int{1, 2, 0}) || e != api.OK {
		t.Errorf("P50.1: Sequence: %v %d", l, e)
	}
	if l, e := Explanations(1, nil, nil, nil); len(l) != 1 || len(l[0]) != 0 || e != api.OK {
		t.Errorf("P50.1: Explanations: %v %d", l, e)
	}
	// Two clocks of which nothing is known are never ordered, and anything may cause anything.
	if o, _ := Order(2, nil, a, b); o != 0 {
		t.Errorf("P50.1: Order: %d", o)
	}
	if l, _ := May(2, nil, []api.CausalRule{{Cause: 1, Effect: 2}}, []api.Record{a, b}); !slices.Equal(l[1], []int{0}) {
		t.Errorf("P50.1: May: %v", l)
	}
}

func TestConsequences(t *testing.T) {
	r := rand.New(rand.NewSource(35))
	for range 200 {
		offset := r.Intn(20)
		l := []api.Offset{{A: 1, B: 0, Most: offset + r.Intn(6)}, {A: 0, B: 1, Most: -offset + r.Intn(6)}}
		rules := []api.CausalRule{{Cause: 1, Effect: 2, Least: 1, Most: 5}, {Cause: 2, Effect: 1, Least: 0, Most: 9}, {Cause: 2, Effect: 3, Least: 2, Most: 20}}
		var records []api.Record
		var times []int
		for range r.Intn(5) {
			time, c := r.Intn(30), r.Intn(2)
			times = append(times, time)
			records = append(records, api.Record{Kind: r.Intn(3) + 1, Clock: c, Time: time + c*offset})
		}
		possible, _ := Possible(2, l, records)
		sequence, _ := Sequence(2, l, records)
		causes, _ := May(2, l, rules, records)
		for i := range records {
			if times[i] == slices.Min(times) && !slices.Contains(possible, i) {
				t.Fatal("P50.2: the first record is possibly first")
			}
			for k := range records {
				o, _ := Order(2, l, records[i], records[k])
				if o < 0 && (times[i] >= times[k] || slices.Index(sequence, i) > slices.Index(sequence, k)) {
					t.Fatal("P50.2: certainly before")
				}
				for _, rule := range rules {
					delay := times[k] - times[i]
					if i != k && rule.Cause == records[i].Kind && rule.Effect == records[k].Kind && delay >= rule.Least && delay <= rule.Most && !slices.Contains(causes[k], i) {
						t.Fatal("P50.2: a cause is missing")
					}
				}
			}
		}
		explanations, e := Explanations(2, l, rules, records)
		if e != api.OK || len(explanations) == 0 {
			t.Fatalf("P50.2: Explanations: %d", e)
		}
		for _, set := range explanations {
			bits := 0
			for _, i := range set {
				bits |= 1 << i
			}
			for part := bits; ; part = (part - 1) & bits {
				if explains(part, causes) != (part == bits) {
					t.Fatalf("P50.2: %v", set)
				}
				if part == 0 {
					break
				}
			}
		}
	}
}

func TestCheck(t *testing.T) {
	records := []api.Record{{Kind: 1, Time: 0}, {Kind: 2, Time: 5}, {Kind: 1, Time: 5}}
	rules := []api.CausalRule{{Cause: 1, Effect: 2, Least: 0, Most: 9}, {Cause: 2, Effect: 1, Least: 0, Most: 9}}
	for i, c := range []struct {
		parents []int
		want    bool
	}{{[]int{-1, 0, -1}, true}, {[]int{-1, 0, 1}, true}, {[]int{-1, 2, 1}, false}, {[]int{-1, -1, -1}, true}, {[]int{1, 0, -1}, false}, {[]int{-1, 0}, false}, {[]int{-1, 3, -1}, false}, {[]int{-2, 0, -1}, false}, {[]int{0, 0, -1}, false}} {
		if Check(1, nil, rules, records, c.parents) != c.want {
			t.Errorf("P50.1: Check, row %d", i)
		}
	}
}

func TestErrors(t *testing.T) {
	good := api.Record{Kind: 1}
	for i, c := range []struct {
		n     int
		l     []api.Offset
		rules []api.CausalRule
		r     []api.Record
		want  api.Errno
	}{
		{0, nil, nil, nil, api.ErrRange}, {1, []api.Offset{{Most: -1}}, nil, make([]api.Record, 13), api.ErrConflict}, {1, nil, make([]api.CausalRule, 31), make([]api.Record, 13), api.ErrTooLarge}, {1, nil, make([]api.CausalRule, 31), make([]api.Record, 1), api.ErrRange}, {1, nil, nil, []api.Record{{Kind: 101}}, api.ErrRange},
		{1, nil, nil, []api.Record{{Kind: 1, Clock: 1}}, api.ErrRange}, {1, nil, nil, []api.Record{{Kind: 1, Time: 1<<40 + 1}}, api.ErrRange}, {1, nil, make([]api.CausalRule, 31), []api.Record{good}, api.ErrTooLarge}, {1, nil, []api.CausalRule{{Cause: 1}}, []api.Record{good}, api.ErrRange},
		{1, nil, []api.CausalRule{{Cause: 1, Effect: 1, Least: 2, Most: 1}}, nil, api.ErrRange}, {1, nil, []api.CausalRule{{Cause: 1, Effect: 1, Most: 1<<40 + 1}}, nil, api.ErrRange}, {1, nil, []api.CausalRule{{Cause: 1, Effect: 1, Most: 1 << 40}}, slices.Repeat([]api.Record{good}, 12), 0},
	} {
		if _, e := May(c.n, c.l, c.rules, c.r); e != c.want {
			t.Errorf("P50.1: row %d: %d", i, e)
		}
		if c.want != api.OK && Check(c.n, c.l, c.rules, c.r, make([]int, len(c.r))) {
			t.Errorf("P50.1: Check, row %d", i)
		}
	}
	if _, e := Order(1, nil, good, api.Record{}); e != api.ErrRange {
		t.Errorf("P50.1: Order: %d", e)
	}
	if _, e := Sequence(1, nil, make([]api.Record, 13)); e != api.ErrTooLarge {
		t.Errorf("P50.1: Sequence: %d", e)
	}
}
