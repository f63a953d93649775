package instrument

import (
	"math/rand"
	"slices"
	"testing"

	"betatron/api"
	"betatron/exact"
	"betatron/interval"
	"betatron/sample"
)

var (
	monitor     = api.Instrument{Kind: 1, Place: 3, Plane: 1, Offset: 5, Resolution: 10, Range: 1000}
	losses      = api.Instrument{Kind: 2, Place: 3, Resolution: 7, Range: 100, Reach: 1}
	transformer = api.Instrument{Kind: 3, Offset: -2, Resolution: 3, Range: 6}
)

func at(x, y, lost, turn int) api.Particle { return api.Particle{X: x, Y: y, Lost: lost, Turn: turn} }

func TestExamples(t *testing.T) {
	r, e := Position(monitor, []api.Particle{at(8, 0, -1, 2), at(15, 0, -1, 4), at(999, 0, 5, 9)})
	if r != (api.Measurement{At: 9, Value: 20, Good: true}) || e != api.OK {
		t.Errorf("P57.1: Position: %v %d", r, e)
	}
	if i, e := Truth(monitor, r); sample.Text(i.Low, i.High) != "10 20" || e != api.OK {
		t.Errorf("P57.1: Truth: %s %d", sample.Text(i.Low, i.High), e)
	}
	for x, want := range map[int]int{0: 10, -1: 0, 10: 20, -10: 0, -11: -10, -20: -10} {
		if r, _ := Position(monitor, []api.Particle{at(x, 0, -1, 0)}); r.Value != want || !r.Good {
			t.Errorf("P57.1: Position of %d: %v", x, r)
		}
	}
	for i, l := range [][]api.Particle{{at(1006, 0, -1, 3)}, {at(0, 0, 7, 3)}} {
		if r, e := Position(monitor, l); r != (api.Measurement{At: 3}) || e != api.OK {
			t.Errorf("P57.1: Position, row %d: %v", i, r)
		}
	}
	vertical := monitor
	vertical.Plane = 2
	if r, _ := Position(vertical, []api.Particle{at(500, -25, -1, 0)}); r.Value != -20 {
		t.Errorf("P57.1: Position: %v", r)
	}
	for i, c := range []struct {
		losses []int
		want   api.Measurement
	}{{[]int{9, 9, 1, 2, 3, 9}, api.Measurement{Value: 42, Good: true}}, {[]int{0, 0, 0, 15}, api.Measurement{Value: 100}}, {nil, api.Measurement{Good: true}}} {
		if r, e := Loss(losses, c.losses); r != c.want || e != api.OK {
			t.Errorf("P57.1: Loss, row %d: %v %d", i, r, e)
		}
	}
	for n, want := range []api.Measurement{{Value: -2, Good: true}, {At: 1, Value: 1, Good: true}, {At: 1, Value: 4, Good: true}, {At: 1}} {
		if r, e := Current(transformer, slices.Repeat([]api.Particle{at(0, 0, -1, 1)}, n)); r != want || e != api.OK {
			t.Errorf("P57.1: Current of %d: %v %d", n, r, e)
		}
	}
	for i, c := range []struct {
		l    []int
		want string
	}{{[]int{3, -1, 0, -2, 4}, "1/8 3/8"}, {[]int{1, 2}, "0 1/2"}, {[]int{1, -2}, "0 1/2"}, {[]int{0, 0, -1, 0, 0}, "0 1/8"}, {[]int{1, -1, 1, -1}, "1/3 1/2"}, {[]int{1, 0, -1}, "0 1/2"}} {
		b, e := TuneMeter(c.l)
		var negative []int
		for _, n := range c.l {
			negative = append(negative, -3*n)
		}
		other, _ := TuneMeter(negative)
		if sample.Text(b.Low, b.High) != c.want || b.Turns != len(c.l)-1 || e != api.OK || !exact.Same(other.Low, b.Low) || !exact.Same(other.High, b.High) {
			t.Errorf("P57.1: TuneMeter, row %d: %s %d", i, sample.Text(b.Low, b.High), e)
		}
	}
}

func TestConsequences(t *testing.T) {
	r := rand.New(rand.NewSource(41))
	for range 300 {
		var l, shifted []api.Particle
		sum, n := 0, 0
		for range r.Intn(6) + 1 {
			q := at(r.Intn(200)-100, 0, r.Intn(4)/3*7-1, 0)
			l = append(l, q)
			if q.Lost < 0 {
				sum, n = sum+q.X, n+1
			}
			q.X += 30
			shifted = append(shifted, q)
		}
		reading, _ := Position(monitor, l)
		if n == 0 {
			continue
		}
		truth, e := Truth(monitor, reading)
		moved, _ := Position(monitor, shifted)
		without, _ := Position(monitor, slices.DeleteFunc(slices.Clone(l), func(q api.Particle) bool { return q.Lost >= 0 }))
		var w exact.Work
		if e != api.OK || !interval.Contains(truth, w.Div(exact.Whole(sum), exact.Whole(n))) || moved.Value != reading.Value+30 || without.Value != reading.Value {
			t.Fatalf("P57.2: %v", reading)
		}
	}
	left, right, both := losses, losses, losses
	left.Place, right.Place, both.Place, both.Reach = 1, 4, 2, 3
	l := []int{1, 2, 3, 0, 1, 2}
	a, _ := Loss(left, l)
	b, _ := Loss(right, l)
	c, _ := Loss(both, l)
	if a.Value+b.Value != c.Value {
		t.Errorf("P57.2: %v %v %v", a, b, c)
	}
}

func TestErrors(t *testing.T) {
	for i, c := range []struct {
		i    api.Instrument
		want api.Errno
	}{
		{monitor, 0}, {losses, 0}, {transformer, 0}, {api.Instrument{}, api.ErrInvalid}, {api.Instrument{Kind: 4}, api.ErrInvalid}, {api.Instrument{Kind: 1, Plane: 3, Resolution: 1, Range: 1}, api.ErrRange}, {api.Instrument{Kind: 1, Plane: 1, Resolution: 1000000001, Range: 1}, api.ErrRange}, {api.Instrument{Kind: 1, Plane: 1, Resolution: 1, Range: 0}, api.ErrRange},
		{api.Instrument{Kind: 1, Plane: 1, Resolution: 1, Range: 1, Reach: 1}, api.ErrRange}, {api.Instrument{Kind: 1, Plane: 1, Resolution: 1, Range: 1, Place: 200}, api.ErrRange}, {api.Instrument{Kind: 1, Plane: 1, Resolution: 1, Range: 1, Offset: most + 1}, api.ErrRange}, {api.Instrument{Kind: 2, Plane: 1, Resolution: 1, Range: 1}, api.ErrRange},
		{api.Instrument{Kind: 2, Resolution: 1000001, Range: 1}, api.ErrRange}, {api.Instrument{Kind: 2, Resolution: 1, Range: 1, Offset: 1}, api.ErrRange}, {api.Instrument{Kind: 2, Resolution: 1, Range: 1, Reach: 200}, api.ErrRange}, {api.Instrument{Kind: 3, Resolution: 1, Range: 1, Reach: 1}, api.ErrRange}, {api.Instrument{Kind: 3, Resolution: 1, Range: most + 1}, api.ErrRange},
	} {
		if e := Valid(c.i); e != c.want {
			t.Errorf("P57.1: Valid, row %d: %d", i, e)
		}
	}
	if _, e := Position(losses, make([]api.Particle, 51)); e != api.ErrState {
		t.Errorf("P57.1: Position: %d", e)
	}
	for i, c := range []struct {
		l    []api.Particle
		want api.Errno
	}{{make([]api.Particle, 51), api.ErrTooLarge}, {[]api.Particle{at(most+1, 0, -1, 0)}, api.ErrRange}, {[]api.Particle{at(0, 0, 200, 0)}, api.ErrRange}, {[]api.Particle{at(0, 0, 0, 1000001)}, api.ErrRange}, {[]api.Particle{{Deviation: 1000001}}, api.ErrRange}} {
		if _, e := Position(monitor, c.l); e != c.want {
			t.Errorf("P57.1: Position, row %d: %d", i, e)
		}
		if _, e := Current(transformer, c.l); e != c.want {
			t.Errorf("P57.1: Current, row %d: %d", i, e)
		}
	}
	for i, c := range []struct {
		l    []int
		want api.Errno
	}{{make([]int, 201), api.ErrTooLarge}, {[]int{0, -1}, api.ErrRange}, {[]int{1001}, api.ErrRange}} {
		if _, e := Loss(losses, c.l); e != c.want {
			t.Errorf("P57.1: Loss, row %d: %d", i, e)
		}
	}
	for i, c := range []struct {
		r    api.Measurement
		want api.Errno
	}{{api.Measurement{Value: 5}, api.ErrInvalid}, {api.Measurement{Value: 5, Good: true}, api.ErrRange}, {api.Measurement{Value: -1010, Good: true}, api.ErrRange}, {api.Measurement{Value: -1000, Good: true}, 0}} {
		if _, e := Truth(monitor, c.r); e != c.want {
			t.Errorf("P57.1: Truth, row %d: %d", i, e)
		}
	}
	for i, c := range []struct {
		l    []int
		want api.Errno
	}{{make([]int, 1001), api.ErrTooLarge}, {[]int{most + 1}, api.ErrEmpty}, {[]int{1, -most - 1}, api.ErrRange}, {[]int{0, 0}, api.ErrNone}} {
		if _, e := TuneMeter(c.l); e != c.want {
			t.Errorf("P57.1: TuneMeter, row %d: %d", i, e)
		}
	}
}

func TestInconsistent(t *testing.T) {
	l := []api.Instrument{monitor, monitor, monitor, monitor}
	readings := []api.Measurement{{Value: 20, Good: true}, {Value: 20, Good: true}, {Value: 20}, {Value: -20, Good: true}}
	orbit := []api.Interval{sample.Interval("20", "25"), sample.Interval("41/2", "25"), sample.Interval("50", "60"), sample.Interval("0", "0")}
	if found, e := Inconsistent(l, readings, orbit); !slices.Equal(found, []int{1, 3}) || e != api.OK {
		t.Errorf("P57.1: Inconsistent: %v %d", found, e)
	}
	for i, c := range []struct {
		l        []api.Instrument
		readings []api.Measurement
		orbit    []api.Interval
		want     api.Errno
	}{
		{make([]api.Instrument, 201), nil, nil, api.ErrTooLarge}, {l, readings[1:], orbit, api.ErrRange}, {l, readings, orbit[1:], api.ErrRange}, {[]api.Instrument{{}}, readings[:1], orbit[:1], api.ErrInvalid}, {[]api.Instrument{losses}, readings[:1], orbit[:1], api.ErrState},
		{l[:1], readings[:1], make([]api.Interval, 1), api.ErrInvalid}, {l[:1], []api.Measurement{{Value: 3, Good: true}}, orbit[:1], api.ErrRange}, {l[:1], []api.Measurement{{Value: 3}}, orbit[:1], 0},
	} {
		if _, e := Inconsistent(c.l, c.readings, c.orbit); e != c.want {
			t.Errorf("P57.1: Inconsistent, row %d: %d", i, e)
		}
	}
}
