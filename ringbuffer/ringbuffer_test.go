package ringbuffer

import (
	"math/rand"
	"slices"
	"testing"

	"betatron/api"
)

func at(times ...int) []api.Measurement {
	var l []api.Measurement
	for _, t := range times {
		l = append(l, api.Measurement{At: t, Value: -t, Good: true})
	}
	return l
}

func put(b api.Buffer, times ...int) api.Buffer {
	for _, s := range at(times...) {
		b, _ = Put(b, s)
	}
	return b
}

func TestExamples(t *testing.T) {
	b, e := New(3, 1)
	b = put(b, 1, 2, 3, 4)
	l, overwritten, f := Read(b)
	if !slices.Equal(l, at(2, 3, 4)) || overwritten != 1 || e+f != 0 {
		t.Errorf("P51.1: %v %d", l, overwritten)
	}
	b, _ = Freeze(b, 4)
	b = put(b, 5)
	if !slices.Equal(b.Samples, at(3, 4, 5)) || !b.Frozen {
		t.Errorf("P51.1: %v", b)
	}
	if _, e := Put(b, at(6)[0]); e != api.ErrState {
		t.Errorf("P51.1: Put: %d", e)
	}
	again, e := Rearm(b)
	if again.Remaining != -1 || len(again.Samples) != 0 || again.Capacity != 3 || again.Overwritten != 0 || e != api.OK {
		t.Errorf("P51.1: Rearm: %v %d", again, e)
	}
	if same, e := Freeze(b, 9); e != api.OK || same.Remaining != 0 {
		t.Errorf("P51.1: Freeze: %v %d", same, e)
	}
	now, _ := New(2, 0)
	if now, _ = Freeze(now, 0); !now.Frozen || Valid(now) != api.OK {
		t.Errorf("P51.1: Freeze: %v", now)
	}
	if w, e := Window(b, 3, 5); !slices.Equal(w, at(3, 4)) || e != api.OK {
		t.Errorf("P51.1: Window: %v %d", w, e)
	}
	r, refused, e := Run(2, 1, []api.BufferStep{{Kind: 1, Sample: at(5)[0]}, {Kind: 1, Sample: at(4)[0]}, {Kind: 3}, {Kind: 9}, {Kind: 2}, {Kind: 1, Sample: api.Measurement{At: -1}}, {Kind: 1, Sample: at(6)[0]}, {Kind: 1, Sample: at(7)[0]}})
	if !slices.Equal(r.Samples, at(5, 6)) || !r.Frozen || refused != 5 || e != api.OK {
		t.Errorf("P51.1: Run: %v %d %d", r, refused, e)
	}
}

func TestExtremes(t *testing.T) {
	values := func(l ...int) []api.Measurement {
		var s []api.Measurement
		for i, v := range l {
			s = append(s, api.Measurement{At: i, Value: v})
		}
		return s
	}
	l := values(3, 1, 4, 1, 5, 9, 2, 6)
	for i, c := range []struct {
		n    int
		want []int
	}{{1, []int{1, 5}}, {2, []int{1, 2, 5, 6}}, {3, []int{0, 1, 3, 4, 5, 6}}, {20, []int{0, 1, 2, 3, 4, 5, 6, 7}}} {
		got, e := Extremes(l, c.n)
		var indices []int
		for _, s := range got {
			indices = append(indices, s.At)
		}
		if !slices.Equal(indices, c.want) || e != api.OK {
			t.Errorf("P51.1: Extremes, row %d: %v %d", i, indices, e)
		}
	}
	if got, e := Extremes(nil, 3); len(got) != 0 || e != api.OK {
		t.Errorf("P51.1: Extremes: %v %d", got, e)
	}
	for i, c := range []struct {
		l    []api.Measurement
		n    int
		want api.Errno
	}{{make([]api.Measurement, 401), 0, api.ErrTooLarge}, {at(2, 1), 0, api.ErrOrder}, {[]api.Measurement{{At: -1}}, 0, api.ErrRange}, {l, 0, api.ErrRange}, {l, 201, api.ErrRange}} {
		if _, e := Extremes(c.l, c.n); e != c.want {
			t.Errorf("P51.1: Extremes, row %d: %d", i, e)
		}
	}
}

func TestConsequences(t *testing.T) {
	r := rand.New(rand.NewSource(36))
	for range 300 {
		capacity, after := r.Intn(5)+1, r.Intn(7)
		b, _ := New(capacity, after)
		var all []int
		requested := -1
		for i := range r.Intn(20) {
			if r.Intn(8) == 0 && requested < 0 {
				b, _ = Freeze(b, i)
				requested = len(all)
			}
			if next, e := Put(b, at(i)[0]); e == api.OK {
				b = next
				all = append(all, i)
			}
			if Valid(b) != api.OK {
				t.Fatalf("P51.2: %v", b)
			}
		}
		newest := all[max(0, len(all)-capacity):]
		if !slices.Equal(b.Samples, at(newest...)) || b.Overwritten != len(all)-len(newest) || b.Frozen && len(all)-requested != after {
			t.Fatalf("P51.2: %v of %v", b.Samples, all)
		}
		left, _ := Window(b, 0, 7)
		right, _ := Window(b, 7, 30)
		if !slices.Equal(append(left, right...), b.Samples) {
			t.Fatal("P51.2: Window")
		}
	}
}

func TestErrors(t *testing.T) {
	for _, c := range [][2]int{{0, 0}, {201, 0}, {1, -1}, {1, 201}} {
		if _, e := New(c[0], c[1]); e != api.ErrRange {
			t.Errorf("P51.1: New: %d", e)
		}
		if _, _, e := Run(c[0], c[1], nil); e != api.ErrRange {
			t.Errorf("P51.1: Run: %d", e)
		}
	}
	good := api.Buffer{Capacity: 2, After: 3, Samples: at(1, 2), Overwritten: 4, Remaining: 2}
	for i, c := range []struct {
		change func(b *api.Buffer)
		want   api.Errno
	}{
		{func(b *api.Buffer) {}, 0}, {func(b *api.Buffer) { b.Capacity = 0 }, api.ErrRange}, {func(b *api.Buffer) { b.Overwritten = -1 }, api.ErrRange}, {func(b *api.Buffer) { b.Remaining = 4 }, api.ErrRange}, {func(b *api.Buffer) { b.Remaining = -2 }, api.ErrRange},
		{func(b *api.Buffer) { b.Samples = at(1, -1, 0) }, api.ErrRange}, {func(b *api.Buffer) { b.Samples = at(2, 1, 0) }, api.ErrOrder}, {func(b *api.Buffer) { b.Samples = at(1, 2, 3) }, api.ErrTooLarge}, {func(b *api.Buffer) { b.Frozen = true }, api.ErrInvalid}, {func(b *api.Buffer) { b.Remaining = 0 }, api.ErrInvalid}, {func(b *api.Buffer) { b.Samples = at(1) }, api.ErrInvalid},
	} {
		b := good
		c.change(&b)
		if e := Valid(b); e != c.want {
			t.Errorf("P51.1: Valid, row %d: %d", i, e)
		}
	}
	if _, e := Put(good, at(1)[0]); e != api.ErrOrder {
		t.Errorf("P51.1: Put: %d", e)
	}
	if _, e := Put(good, api.Measurement{At: 1, Value: 1<<40 + 1}); e != api.ErrRange {
		t.Errorf("P51.1: Put: %d", e)
	}
	full := good
	full.Overwritten = 1 << 40
	if _, e := Put(full, at(3)[0]); e != api.ErrFull {
		t.Errorf("P51.1: Put: %d", e)
	}
	if _, e := Freeze(good, -1); e != api.ErrRange {
		t.Errorf("P51.1: Freeze: %d", e)
	}
	if _, e := Rearm(good); e != api.ErrState {
		t.Errorf("P51.1: Rearm: %d", e)
	}
	for _, c := range [][2]int{{-1, 0}, {2, 1}, {0, 1<<40 + 1}} {
		if _, e := Window(good, c[0], c[1]); e != api.ErrRange {
			t.Errorf("P51.1: Window: %d", e)
		}
	}
}
