package event

import (
	"math/rand"
	"slices"
	"testing"

	"betatron/api"
)

var example = api.Event{At: 258, Number: 3, Cycle: 1, Source: 2, Payload: -1}

func TestExamples(t *testing.T) {
	s, e := Encode(example)
	want := []byte{0, 0, 0, 0, 1, 2, 0, 3, 0, 0, 1, 2, 0, 255, 255, 255, 255, 255, 79, 252}
	if s != string(want) || e != api.OK {
		t.Errorf("P29.1: Encode: %v %d", []byte(s), e)
	}
	l, e := Telegram([]api.EventDef{{Number: 7, Name: "a", Offset: 20}, {Number: 5, Name: "b", Offset: 10}}, 4, 1000)
	if !slices.Equal(l, []api.Event{{At: 1010, Number: 5, Cycle: 4}, {At: 1020, Number: 7, Cycle: 4}}) || e != api.OK {
		t.Errorf("P29.1: Telegram: %v %d", l, e)
	}
}

func TestBytes(t *testing.T) {
	for i, e := range []api.Event{example, {At: 1 << 40, Number: 999, Cycle: 1 << 20, Source: 99, Payload: 1 << 40}, {Number: 1, Payload: -(1 << 40)}} {
		s, _ := Encode(e)
		if back, err := Decode(s); back != e || err != api.OK {
			t.Errorf("P29.2: row %d: %v %d", i, back, err)
		}
		for k := range s {
			changed := []byte(s)
			changed[k] ^= 64
			if back, err := Decode(string(changed)); err != api.ErrLost || back != (api.Event{}) {
				t.Errorf("P29.2: row %d, byte %d: %d", i, k, err)
			}
		}
	}
	if _, err := Decode("x"); err != api.ErrSyntax {
		t.Errorf("P29.1: Decode: %d", err)
	}
	zero := make([]byte, 20)
	if _, err := Decode(string(zero)); err != api.ErrRange {
		t.Errorf("P29.1: Decode: %d", err)
	}
}

func TestOrder(t *testing.T) {
	r := rand.New(rand.NewSource(16))
	some := func() []api.Event {
		var l []api.Event
		for range r.Intn(6) {
			l = append(l, api.Event{At: r.Intn(4), Number: r.Intn(2) + 1, Cycle: r.Intn(2), Source: r.Intn(2), Payload: r.Intn(2)})
		}
		slices.SortFunc(l, Compare)
		return l
	}
	for range 200 {
		a, b := some(), some()
		x, e := Merge([][]api.Event{a, b})
		y, _ := Merge([][]api.Event{b, nil, a})
		if !slices.Equal(x, y) || e != api.OK || !slices.IsSortedFunc(x, Compare) || len(x) != len(a)+len(b) {
			t.Fatalf("P29.2: Merge: %v %v", x, y)
		}
		left, _ := Window(x, 0, 2)
		right, _ := Window(x, 2, 4)
		if !slices.Equal(append(left, right...), x) {
			t.Fatal("P29.2: Window")
		}
		next, e := Next(x, 2, 1)
		k := slices.IndexFunc(x, func(e api.Event) bool { return e.Number == 2 && e.At >= 1 })
		if k < 0 && e != api.ErrNone || k >= 0 && next != x[k] {
			t.Fatalf("P29.1: Next: %v %d", next, e)
		}
	}
	ordered := []api.Event{{At: 1, Source: 9}, {At: 2, Source: 1, Number: 9}, {At: 2, Source: 2, Number: 1, Cycle: 9}, {At: 2, Source: 2, Number: 2, Cycle: 1, Payload: 9}, {At: 2, Source: 2, Number: 2, Cycle: 2, Payload: -9}, {At: 2, Source: 2, Number: 2, Cycle: 2, Payload: 0}}
	for i, a := range ordered {
		for k, b := range ordered {
			if got := Compare(a, b); (got < 0) != (i < k) || (got > 0) != (i > k) {
				t.Errorf("P29.1: Compare of %d and %d: %d", i, k, got)
			}
		}
	}
}

func TestErrors(t *testing.T) {
	for i, change := range []func(e *api.Event){
		func(e *api.Event) { e.At = -1 }, func(e *api.Event) { e.At = 1<<40 + 1 }, func(e *api.Event) { e.Number = 0 }, func(e *api.Event) { e.Number = 1000 },
		func(e *api.Event) { e.Cycle = 1<<20 + 1 }, func(e *api.Event) { e.Source = 100 }, func(e *api.Event) { e.Payload = 1<<40 + 1 },
	} {
		bad := example
		change(&bad)
		if _, e := Encode(bad); e != api.ErrRange {
			t.Errorf("P29.1: row %d: %d", i, e)
		}
	}
	long := slices.Repeat([]api.Event{example}, 1001)
	for i, c := range []struct {
		lists [][]api.Event
		want  api.Errno
	}{{make([][]api.Event, 21), api.ErrTooLarge}, {[][]api.Event{long, long}, api.ErrTooLarge}, {[][]api.Event{{example, {At: 1, Number: 1}}}, api.ErrOrder}, {[][]api.Event{{{}}}, api.ErrRange}, {[][]api.Event{{example, example}}, 0}} {
		if _, e := Merge(c.lists); e != c.want {
			t.Errorf("P29.1: Merge, row %d: %d", i, e)
		}
	}
	for _, c := range [][3]int{{-1, 0, 6}, {2, 1, 6}, {0, 1<<40 + 2, 6}, {0, 1<<40 + 1, 0}} {
		if _, e := Window(nil, c[0], c[1]); int(e) != c[2] {
			t.Errorf("P29.1: Window: %d", e)
		}
	}
	good := api.EventDef{Number: 1, Name: "a"}
	for i, c := range []struct {
		defs         []api.EventDef
		cycle, start int
		want         api.Errno
	}{
		{slices.Repeat([]api.EventDef{good}, 101), 0, 0, api.ErrTooLarge}, {[]api.EventDef{{Name: "A"}}, 0, 0, api.ErrRange}, {[]api.EventDef{{Number: 1, Offset: -1}}, 0, 0, api.ErrSyntax},
		{[]api.EventDef{{Number: 1, Name: "a", Offset: -1}}, 0, 0, api.ErrRange}, {[]api.EventDef{{Number: 1, Name: "a", Source: 100}}, 0, 0, api.ErrRange}, {[]api.EventDef{good, good}, -1, 0, api.ErrExists},
		{[]api.EventDef{good}, -1, 0, api.ErrRange}, {[]api.EventDef{good}, 0, 1<<40 + 1, api.ErrRange}, {[]api.EventDef{{Number: 1, Name: "a", Offset: 1}}, 0, 1 << 40, api.ErrRange}, {[]api.EventDef{good}, 0, 1 << 40, 0},
	} {
		if _, e := Telegram(c.defs, c.cycle, c.start); e != c.want {
			t.Errorf("P29.1: Telegram, row %d: %d", i, e)
		}
	}
}
