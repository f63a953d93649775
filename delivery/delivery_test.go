package delivery

import (
	"math/rand"
	"slices"
	"testing"

	"betatron/api"
)

func message(number, at int) api.Message {
	return api.Message{Number: number, At: at, Branch: api.BranchA, Payload: number * 10}
}

func times(l []api.Message) [][2]int {
	var r [][2]int
	for _, m := range l {
		r = append(r, [2]int{m.Number, m.At})
	}
	return r
}

func TestExamples(t *testing.T) {
	for i, c := range []struct {
		l     []api.Message
		until int
		acted [][2]int
		given []int
	}{
		{[]api.Message{message(2, 10), message(1, 30)}, 200, [][2]int{{1, 30}, {2, 30}}, nil},
		{[]api.Message{message(2, 10)}, 109, nil, nil},
		{[]api.Message{message(2, 10)}, 110, [][2]int{{2, 110}}, []int{1}},
		{[]api.Message{message(2, 10), message(4, 20)}, 200, [][2]int{{2, 110}, {4, 120}}, []int{1, 3}},
		{[]api.Message{message(1, 5), message(1, 6), message(3, 10), message(3, 12), message(2, 13)}, 20, [][2]int{{1, 5}, {2, 13}, {3, 13}}, nil},
		{[]api.Message{message(2, 10), message(1, 110)}, 200, [][2]int{{2, 110}}, []int{1}},
	} {
		acted, given, e := Run(100, c.l, c.until)
		if !slices.Equal(times(acted), c.acted) || !slices.Equal(given, c.given) || e != api.OK {
			t.Errorf("P32.1: row %d: %v %v %d", i, times(acted), given, e)
		}
	}
	l, e := Transport([]api.Message{message(1, 0), message(2, 10)}, api.Branch{Delays: []int{50, 50}, Broken: -1}, api.Branch{Delays: []int{20, 70}, Broken: -1})
	if !slices.Equal(times(l), [][2]int{{1, 20}, {1, 50}, {2, 60}, {2, 80}}) || l[0].Branch != api.BranchB || l[3].Branch != api.BranchB || e != api.OK {
		t.Errorf("P32.1: Transport: %v %d", l, e)
	}
	if n, e := Latency([]api.Message{message(1, 0), message(2, 10)}, []api.Message{message(2, 60), message(1, 5)}); n != 50 || e != api.OK {
		t.Errorf("P32.1: Latency: %d %d", n, e)
	}
}

func TestConsequences(t *testing.T) {
	r := rand.New(rand.NewSource(19))
	for range 300 {
		var sent []api.Message
		a, b := api.Branch{Broken: -1}, api.Branch{Broken: r.Intn(60)}
		number, at := 0, 0
		for i := range r.Intn(10) {
			number, at = number+1, at+r.Intn(10)
			sent = append(sent, message(number, at))
			a.Delays, b.Delays = append(a.Delays, 9), append(b.Delays, 7)
			if r.Intn(3) == 0 {
				b.Lost = append(b.Lost, i)
			}
		}
		l, e := Transport(sent, a, b)
		acted, given, f := Run(10, l, 1000)
		latency, g := Latency(sent, acted)
		if e != api.OK || f != api.OK || len(acted) != len(sent) || len(given) != 0 || len(sent) > 0 && (latency > 9 || g != api.OK) {
			t.Fatalf("P32.2: %v %v %d", times(acted), given, latency)
		}
		// With losses on both branches each number is acted on or given up, in order.
		a.Lost = b.Lost
		l, _ = Transport(sent, a, b)
		acted, given, _ = Run(5, l, 1000)
		last := 0
		for _, m := range acted {
			if m.Number <= last || slices.Contains(given, m.Number) {
				t.Fatal("P32.2: numbers that are acted on")
			}
			last = m.Number
		}
		if !slices.IsSorted(given) || len(acted)+len(given) != last {
			t.Fatalf("P32.2: %v %v", times(acted), given)
		}
	}
}

func TestReceiver(t *testing.T) {
	r, _ := New(100)
	r, _, _ = Arrive(r, message(2, 10))
	before := r
	next, acted, e := Arrive(r, message(2, 12))
	if next.Now != 12 || len(acted) != 0 || e != api.OK || next.Since != 10 || len(next.Waiting) != 1 {
		t.Errorf("P32.2: a duplicate: %v %d", next, e)
	}
	if _, _, e := Arrive(r, message(1, 9)); e != api.ErrOrder {
		t.Errorf("P32.1: Arrive: %d", e)
	}
	if _, _, e := Arrive(r, message(1, 110)); e != api.ErrTimeout {
		t.Errorf("P32.1: Arrive: %d", e)
	}
	if _, _, e := Arrive(r, message(1, 109)); e != api.OK || len(before.Waiting) != 1 {
		t.Errorf("P32.1: Arrive: %d", e)
	}
	if _, _, _, e := Advance(r, 9); e != api.ErrOrder {
		t.Errorf("P32.1: Advance: %d", e)
	}
	if _, _, _, e := Advance(r, 1<<40+1); e != api.ErrRange {
		t.Errorf("P32.1: Advance: %d", e)
	}
	late := api.Receiver{Timeout: 5, Next: 1, Now: 50, Since: 10, Waiting: []api.Message{message(2, 10), message(4, 48)}}
	after, acted, given, e := Advance(late, 53)
	if !slices.Equal(times(acted), [][2]int{{2, 50}, {4, 53}}) || !slices.Equal(given, []int{1, 3}) || e != api.OK || after.Next != 5 || after.Since != 0 || Valid(after) != api.OK {
		t.Errorf("P32.1: Advance: %v %v %d", acted, given, e)
	}
	full := api.Receiver{Timeout: 5, Next: 1}
	for i := range 64 {
		full.Waiting = append(full.Waiting, message(i+3, 0))
	}
	if _, _, e := Arrive(full, message(2, 0)); e != api.ErrFull {
		t.Errorf("P32.1: Arrive: %d", e)
	}
	if r, acted, e := Arrive(full, message(1, 0)); e != api.OK || len(acted) != 1 || len(r.Waiting) != 64 {
		t.Errorf("P32.1: Arrive: %d", e)
	}
	if _, _, e := Arrive(full, message(3, 0)); e != api.OK {
		t.Errorf("P32.1: Arrive: %d", e)
	}
}

func TestErrors(t *testing.T) {
	good := api.Receiver{Timeout: 5, Next: 1, Now: 20, Since: 10, Waiting: []api.Message{message(2, 10), message(4, 15)}}
	for i, c := range []struct {
		change func(r *api.Receiver)
		want   api.Errno
	}{
		{func(r *api.Receiver) {}, 0}, {func(r *api.Receiver) { r.Timeout = 0 }, api.ErrRange}, {func(r *api.Receiver) { r.Next = 1000002 }, api.ErrRange}, {func(r *api.Receiver) { r.Now = -1 }, api.ErrRange},
		{func(r *api.Receiver) { r.Waiting = make([]api.Message, 65) }, api.ErrTooLarge}, {func(r *api.Receiver) { r.Waiting[0].Branch = 3 }, api.ErrRange}, {func(r *api.Receiver) { r.Next = 2 }, api.ErrOrder},
		{func(r *api.Receiver) { r.Waiting[1].Number = 2 }, api.ErrOrder}, {func(r *api.Receiver) { r.Now = 12 }, api.ErrRange}, {func(r *api.Receiver) { r.Since = 15 }, api.ErrInvalid}, {func(r *api.Receiver) { r.Waiting = nil }, api.ErrInvalid},
	} {
		bad := good
		bad.Waiting = slices.Clone(good.Waiting)
		c.change(&bad)
		if e := Valid(bad); e != c.want {
			t.Errorf("P32.1: Valid, row %d: %d", i, e)
		}
	}
	two := []api.Message{message(1, 0), message(2, 10)}
	fine := api.Branch{Delays: []int{1, 1}, Broken: -1}
	for i, c := range []struct {
		sent []api.Message
		a, b api.Branch
		want api.Errno
	}{
		{make([]api.Message, 1001), fine, fine, api.ErrTooLarge}, {[]api.Message{{}}, fine, fine, api.ErrRange}, {[]api.Message{message(2, 0), message(1, 5)}, fine, fine, api.ErrOrder}, {[]api.Message{message(1, 5), message(2, 0)}, fine, fine, api.ErrOrder},
		{two, api.Branch{Delays: []int{1}}, fine, api.ErrRange}, {two, api.Branch{Delays: []int{1, -1}}, fine, api.ErrRange}, {two, api.Branch{Delays: []int{1, 1}, Broken: -2}, fine, api.ErrRange},
		{two, fine, api.Branch{Delays: []int{1, 1}, Lost: []int{2}}, api.ErrRange}, {two, fine, api.Branch{Delays: []int{1, 1}, Lost: []int{1, 0}}, api.ErrOrder}, {two, fine, api.Branch{Delays: []int{50, 1}, Broken: -1}, api.ErrOrder},
		{two, fine, api.Branch{Delays: []int{50, 1}, Broken: 30}, 0}, {two, fine, api.Branch{Delays: []int{50, 1}, Lost: []int{0}, Broken: -1}, 0},
		{[]api.Message{message(1, 1<<40)}, api.Branch{Delays: []int{1}, Broken: -1}, fine, api.ErrRange}, {two, fine, fine, 0},
	} {
		if _, e := Transport(c.sent, c.a, c.b); e != c.want {
			t.Errorf("P32.1: Transport, row %d: %d", i, e)
		}
	}
	for i, c := range []struct {
		sent, acted []api.Message
		want        api.Errno
	}{{make([]api.Message, 1001), nil, api.ErrTooLarge}, {nil, []api.Message{{}}, api.ErrRange}, {append(two, two[0]), []api.Message{message(9, 9)}, api.ErrExists}, {two, []api.Message{message(9, 9)}, api.ErrNotFound}, {two, nil, api.ErrNone}} {
		if _, e := Latency(c.sent, c.acted); e != c.want {
			t.Errorf("P32.1: Latency, row %d: %d", i, e)
		}
	}
	for i, c := range []struct {
		timeout int
		l       []api.Message
		until   int
		want    api.Errno
	}{{0, nil, 0, api.ErrRange}, {1, make([]api.Message, 1001), 0, api.ErrTooLarge}, {1, []api.Message{message(1, 5), {At: 1}}, 0, api.ErrRange}, {1, []api.Message{message(1, 5), message(2, 4)}, 9, api.ErrOrder}, {1, two, 9, api.ErrOrder}, {1, two, 1<<40 + 1, api.ErrRange}} {
		if _, _, e := Run(c.timeout, c.l, c.until); e != c.want {
			t.Errorf("P32.1: Run, row %d: %d", i, e)
		}
	}
}
