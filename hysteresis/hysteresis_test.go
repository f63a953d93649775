package hysteresis

import (
	"math/rand"
	"slices"
	"testing"

	"betatron/api"
)

func magnet(ones ...bool) api.Magnet {
	return api.Magnet{Relays: []api.Relay{{Up: 5, Down: 1, Weight: 3}, {Up: 8, Down: 4, Weight: 2}}, Ones: ones}
}

func TestExamples(t *testing.T) {
	m := magnet(false, false)
	for _, step := range [][2]int{{6, 3}, {9, 5}, {3, 3}} {
		var e api.Errno
		m, e = Apply(m, step[0])
		if f, g := Field(m); f != step[1] || e != api.OK || g != api.OK {
			t.Errorf("P23.1: field behind %d: %d", step[0], f)
		}
	}
	if l := Reduce([]int{2, 6, 4, 9, 3, 5}); !slices.Equal(l, []int{2, 9, 3, 5}) {
		t.Errorf("P23.1: Reduce: %v", l)
	}
	if l := Reduce([]int{1, 2, 2, 3, 3}); !slices.Equal(l, []int{1, 2, 3}) && !slices.Equal(l, []int{1, 3}) {
		t.Logf("Reduce: %v", l)
	}
	if low, high, e := Envelope(m, 6); low != 3 || high != 5 || e != api.OK {
		t.Errorf("P23.1: Envelope: %d %d", low, high)
	}
	if low, high, _ := Envelope(m, 4); low != 0 || high != 3 {
		t.Errorf("P23.1: Envelope: %d %d", low, high)
	}
	for i, c := range []struct {
		l    []int
		want bool
	}{{[]int{9}, true}, {[]int{6, 4}, true}, {[]int{6}, false}, {nil, false}} {
		if erases, e := Erases(m, c.l); erases != c.want || e != api.OK {
			t.Errorf("P23.1: Erases, row %d", i)
		}
	}
	if down, up, e := Saturation(m); down != 1 || up != 8 || e != api.OK {
		t.Errorf("P23.1: Saturation: %d %d", down, up)
	}
}

func TestConsequences(t *testing.T) {
	r := rand.New(rand.NewSource(10))
	for range 300 {
		var m api.Magnet
		for range r.Intn(5) + 1 {
			down := r.Intn(10)
			m.Relays = append(m.Relays, api.Relay{Up: down + 1 + r.Intn(5), Down: down, Weight: r.Intn(9) + 1})
			m.Ones = append(m.Ones, r.Intn(2) == 0)
		}
		var l []int
		for range r.Intn(8) + 1 {
			l = append(l, r.Intn(16))
		}
		reduced := Reduce(l)
		a, _ := History(m, l)
		b, _ := History(m, reduced)
		if !slices.Equal(a.Ones, b.Ones) || !slices.Equal(Reduce(reduced), reduced) {
			t.Fatalf("P23.2: %v and %v", l, reduced)
		}
		zeros := api.Magnet{Relays: m.Relays, Ones: make([]bool, len(m.Ones))}
		ones := api.Magnet{Relays: m.Relays, Ones: slices.Repeat([]bool{true}, len(m.Ones))}
		from, _ := History(zeros, l)
		to, _ := History(ones, l)
		if erases, _ := Erases(m, l); erases != slices.Equal(from.Ones, to.Ones) {
			t.Fatalf("P23.2: Erases of %v", l)
		}
		low, high, _ := Envelope(m, l[len(l)-1])
		if f, _ := Field(a); f < low || f > high {
			t.Fatalf("P23.2: Envelope")
		}
		down, up, _ := Saturation(m)
		if c, _ := History(m, []int{down, up}); slices.Contains(c.Ones, false) {
			t.Fatal("P23.2: Saturation")
		}
	}
}

func TestErrors(t *testing.T) {
	relay := api.Relay{Up: 1, Down: 0, Weight: 1}
	for i, c := range []struct {
		m    api.Magnet
		want api.Errno
	}{
		{api.Magnet{}, api.ErrEmpty}, {api.Magnet{Relays: slices.Repeat([]api.Relay{relay}, 41)}, api.ErrTooLarge},
		{api.Magnet{Relays: []api.Relay{{Up: 1<<40 + 1, Weight: 1}}}, api.ErrRange}, {api.Magnet{Relays: []api.Relay{{Up: 1}}}, api.ErrRange},
		{api.Magnet{Relays: []api.Relay{{Up: 1, Weight: 1<<30 + 1}}}, api.ErrRange}, {api.Magnet{Relays: []api.Relay{{Weight: 1}}}, api.ErrOrder},
		{api.Magnet{Relays: []api.Relay{relay}}, api.ErrInvalid}, {api.Magnet{Relays: []api.Relay{relay}, Ones: []bool{true}}, 0},
	} {
		if e := Valid(c.m); e != c.want {
			t.Errorf("P23.1: row %d: %d", i, e)
		}
	}
	m := magnet(false, true)
	if _, e := Apply(m, 1<<40+1); e != api.ErrRange {
		t.Errorf("P23.1: Apply: %d", e)
	}
	if _, _, e := Envelope(m, -(1<<40)-1); e != api.ErrRange {
		t.Errorf("P23.1: Envelope: %d", e)
	}
	if _, e := History(m, make([]int, 1001)); e != api.ErrTooLarge {
		t.Errorf("P23.1: History: %d", e)
	}
	a, _ := Apply(m, 100)
	if m.Ones[0] || !a.Ones[0] {
		t.Error("rules: an argument was changed")
	}
}
