package bucket

import (
	"math/rand"
	"slices"
	"testing"

	"betatron/api"
)

func filling(h int, l ...int) api.Filling { return api.Filling{Harmonic: h, Bunches: l} }

func TestExamples(t *testing.T) {
	for _, c := range [][3]int{{0, 7, 0}, {7, 7, 0}, {8, 19, 0}} {
		if p, e := Meet(6, 1, 4, 3, c[0]); p != c[1] || e != api.OK {
			t.Errorf("P31.1: Meet from %d: %d %d", c[0], p, e)
		}
	}
	if _, e := Meet(6, 1, 4, 2, 0); e != api.ErrNone {
		t.Errorf("P31.1: Meet: %d", e)
	}
	f := filling(10, 0, 1, 4, 9)
	trains, e := Trains(f)
	if !slices.Equal(trains, []api.Train{{First: 4, Bunches: 1}, {First: 9, Bunches: 3}}) || e != api.OK {
		t.Errorf("P31.1: Trains: %v %d", trains, e)
	}
	if first, length, e := Gap(f); first != 5 || length != 4 || e != api.OK {
		t.Errorf("P31.1: Gap: %d %d %d", first, length, e)
	}
	for offset, want := range map[int]int{0: 3, 1: 2} {
		if n, e := Collisions(f, f, offset); n != want || e != api.OK {
			t.Errorf("P31.1: Collisions at %d: %d %d", offset, n, e)
		}
	}
	if first, length, _ := Gap(filling(7)); first != 0 || length != 7 {
		t.Errorf("P31.1: Gap: %d %d", first, length)
	}
	if l, _ := Trains(filling(3, 0, 1, 2)); !slices.Equal(l, []api.Train{{First: 0, Bunches: 3}}) {
		t.Errorf("P31.1: Trains: %v", l)
	}
	if l, _ := Trains(filling(3)); len(l) != 0 {
		t.Errorf("P31.1: Trains: %v", l)
	}
	// The gap that goes over the end, and two of the same length.
	if first, length, _ := Gap(filling(10, 3, 6)); first != 7 || length != 6 {
		t.Errorf("P31.1: Gap: %d %d", first, length)
	}
	if first, length, _ := Gap(filling(6, 1, 4)); first != 2 || length != 2 {
		t.Errorf("P31.1: Gap: %d %d", first, length)
	}
	g, e := Inject(f, 8, 3, 5)
	if e != api.ErrConflict {
		t.Errorf("P31.1: Inject: %v %d", g, e)
	}
	if g, e := Inject(f, 8, 2, 4); !slices.Equal(g.Bunches, []int{0, 1, 2, 4, 8, 9}) || e != api.OK {
		t.Errorf("P31.1: Inject: %v %d", g, e)
	}
}

func TestConsequences(t *testing.T) {
	r := rand.New(rand.NewSource(18))
	for range 300 {
		h1, h2 := r.Intn(9)+1, r.Intn(9)+1
		period, _ := Period(h1, h2)
		start := r.Intn(50)
		for i := range h1 {
			for j := range h2 {
				p, e := Meet(h1, i, h2, j, start)
				times := 0
				for t := start; t < start+period; t++ {
					if t%h1 == i && t%h2 == j {
						times++
						if p != t {
							p = -1
						}
					}
				}
				if (e == api.OK) != (times == 1) || times > 1 || p < 0 {
					t.Fatalf("P31.2: %d of %d and %d of %d", i, h1, j, h2)
				}
			}
			facing, _ := Facing(h1, i, h2, start)
			for k := start; ; k++ {
				if k%h1 == i {
					if k%h2 != facing {
						t.Fatalf("P31.1: Facing: %d", facing)
					}
					break
				}
			}
		}
		l := make([]bool, r.Intn(12)+1)
		for i := range l {
			l[i] = r.Intn(2) == 0
		}
		f := bunches(l)
		trains, _ := Trains(f)
		sum := 0
		for _, train := range trains {
			sum += train.Bunches
		}
		by := r.Intn(41) - 20
		turned, _ := Turn(f, by)
		back, _ := Turn(f, -by)
		_, length, _ := Gap(f)
		_, same, _ := Gap(turned)
		offset := r.Intn(len(l))
		a, _ := Collisions(f, f, offset)
		b, _ := Collisions(turned, back, offset)
		if sum != len(f.Bunches) || length != same || a != b || Valid(turned) != api.OK {
			t.Fatalf("P31.2: %v", f)
		}
	}
}

func TestErrors(t *testing.T) {
	for i, c := range []struct {
		f    api.Filling
		want api.Errno
	}{{filling(0), api.ErrRange}, {filling(2001), api.ErrRange}, {filling(3, 3), api.ErrRange}, {filling(3, -1), api.ErrRange}, {filling(3, 1, 1), api.ErrOrder}, {filling(3, 1, 0, 9), api.ErrOrder}, {filling(2000, 1999), 0}} {
		if _, e := Trains(c.f); e != c.want {
			t.Errorf("P31.1: row %d: %d", i, e)
		}
	}
	f := filling(5, 0, 1, 2, 3, 4)
	if _, _, e := Gap(f); e != api.ErrNone {
		t.Errorf("P31.1: Gap: %d", e)
	}
	for i, c := range [][4]int{{5, 1, 1, 6}, {0, 0, 1, 6}, {0, 6, 1, 6}, {0, 1, 0, 6}, {0, 1, 6, 6}, {0, 1, 5, 12}} {
		if _, e := Inject(f, c[0], c[1], c[2]); int(e) != c[3] {
			t.Errorf("P31.1: Inject, row %d: %d", i, e)
		}
	}
	if _, e := Inject(filling(4), 0, 3, 2); e != api.ErrConflict {
		t.Errorf("P31.1: Inject: %d", e)
	}
	if _, e := Collisions(f, filling(4), 0); e != api.ErrRange {
		t.Errorf("P31.1: Collisions: %d", e)
	}
	if _, e := Collisions(f, f, 5); e != api.ErrRange {
		t.Errorf("P31.1: Collisions: %d", e)
	}
	if _, e := Turn(f, 1<<40+1); e != api.ErrRange {
		t.Errorf("P31.1: Turn: %d", e)
	}
	for i, c := range [][5]int{{0, 0, 1, 0, 0}, {1, 1, 1, 0, 0}, {1, 0, 2001, 0, 0}, {1, 0, 1, -1, 0}, {1, 0, 1, 0, -1}, {1, 0, 1, 0, 1<<40 + 1}} {
		if _, e := Meet(c[0], c[1], c[2], c[3], c[4]); e != api.ErrRange {
			t.Errorf("P31.1: Meet, row %d: %d", i, e)
		}
	}
	if _, e := Facing(2, 2, 2, 0); e != api.ErrRange {
		t.Errorf("P31.1: Facing: %d", e)
	}
	if _, e := Period(0, 1); e != api.ErrRange {
		t.Errorf("P31.1: Period: %d", e)
	}
	if n, _ := Period(1999, 2000); n != 3998000 {
		t.Errorf("P31.1: Period: %d", n)
	}
}
