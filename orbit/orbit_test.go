package orbit

import (
	"slices"
	"strings"
	"testing"

	"betatron/api"
	"betatron/exact"
	"betatron/expand"
	"betatron/sample"
	"betatron/samplebeam"
)

func text(l []api.Vector) string {
	var words []string
	for _, v := range l {
		words = append(words, sample.Text(v.Position, v.Angle))
	}
	return strings.Join(words, ", ")
}

func kick(place, plane int, angle string) api.Kick {
	return api.Kick{Place: place, Plane: plane, Angle: sample.Ratio(angle)}
}

func ring() api.Beamline {
	return samplebeam.Line("quad q length 1/3 strength 2 ; bend b length 3 strength 1/2 radius 5 ; drift d length 1/2 ; quad r strength - 1 ;", "q d b r d q d")
}

func TestExamples(t *testing.T) {
	b, kicks := samplebeam.Cell(), []api.Kick{kick(3, 1, "1"), kick(0, 2, "5")}
	l, e := Closed(b, 1, kicks)
	if !strings.HasPrefix(text(l), "10 3, 10 -2, 8 -2, 8 2, 10 3") || len(l) != 5 || e != api.OK || !Check(b, 1, kicks, l) {
		t.Errorf("P15.1: Closed: %s %d", text(l), e)
	}
	open, _ := Open(b, 1, l[0], kicks)
	if text(open) != text(l) {
		t.Errorf("P15.2: Open: %s", text(open))
	}
	peak, at, e := Peak(l)
	if sample.Text(peak) != "10" || at != 0 || e != api.OK {
		t.Errorf("P15.1: Peak: %s %d %d", sample.Text(peak), at, e)
	}
	l[2].Angle = exact.One()
	if Check(b, 1, kicks, l) || Check(b, 1, kicks, l[1:]) || Check(b, 1, kicks, nil) {
		t.Error("P15.1: Check")
	}
}

func TestConsequences(t *testing.T) {
	b := ring()
	first, second := []api.Kick{kick(1, 1, "1/2")}, []api.Kick{kick(4, 1, "-3"), kick(4, 1, "1")}
	both := append(slices.Clone(first), second...)
	x, _ := Closed(b, 1, first)
	y, _ := Closed(b, 1, second)
	z, e := Closed(b, 1, both)
	var w exact.Work
	for i := range z {
		if !exact.Same(z[i].Position, w.Add(x[i].Position, y[i].Position)) || e != api.OK {
			t.Fatalf("P15.2: the sum of orbits: %d", e)
		}
	}
	turned, _ := expand.Rotate(b, 3)
	moved := []api.Kick{kick(5, 1, "1/2")}
	around, _ := Closed(turned, 1, moved)
	if text(around[:1]) != text(x[3:4]) || text(around[6:7]) != text(x[2:3]) {
		t.Errorf("P15.2: another beginning: %s and %s", text(around), text(x))
	}
	vertical, e := Dispersion(b, 2)
	if e != api.OK || strings.Trim(text(vertical), "0 ,") != "" {
		t.Errorf("P15.2: vertical dispersion: %s %d", text(vertical), e)
	}
	d, _ := Dispersion(b, 1)
	off, e := OffMomentum(b, both, sample.Ratio("-1/3"))
	for i := range off {
		if !exact.Same(off[i].Position, w.Sub(z[i].Position, w.Div(d[i].Position, exact.Whole(3)))) || e != api.OK {
			t.Fatalf("P15.1: OffMomentum: %d", e)
		}
	}
	if !exact.Same(d[0].Position, d[len(d)-1].Position) || exact.IsZero(d[0].Position) {
		t.Errorf("P15.1: Dispersion: %s", text(d))
	}
}

func TestBump(t *testing.T) {
	b := ring()
	for at := 2; at <= 5; at++ {
		kicks, e := Bump(b, 1, []int{0, 3, 5}, at, sample.Ratio("7/2"))
		if e != api.OK || len(kicks) != 3 {
			t.Fatalf("P15.1: Bump: %d", e)
		}
		l, _ := Open(b, 1, rest(), kicks)
		if sample.Text(l[at].Position) != "7/2" || text(l[6:]) != "0 0, 0 0" || text(l[:1]) != "0 0" {
			t.Errorf("P15.2: Bump at %d: %s", at, text(l))
		}
	}
	markers := samplebeam.Line("marker m ; drift d length 1 ;", "m m d m")
	for i, c := range []struct {
		correctors []int
		at         int
		height     string
		want       api.Errno
	}{
		{[]int{0, 1}, 1, "1", api.ErrRange}, {[]int{0, 1, 4}, 1, "1", api.ErrRange}, {[]int{0, 0, 3}, 1, "1", api.ErrRange}, {[]int{0, 1, 3}, 0, "1", api.ErrRange},
		{[]int{0, 1, 3}, 4, "1", api.ErrRange}, {[]int{0, 1, 3}, 2, "x", api.ErrInvalid}, {[]int{0, 1, 3}, 2, "0", api.ErrSingular}, {[]int{-1, 1, 3}, 2, "0", api.ErrRange},
	} {
		if _, e := Bump(markers, 1, c.correctors, c.at, sample.Ratio(c.height)); e != c.want {
			t.Errorf("P15.1: Bump, row %d: %d", i, e)
		}
	}
}

func TestErrors(t *testing.T) {
	b, drift := samplebeam.Cell(), samplebeam.Line("drift d length 1 ;", "d")
	for i, c := range []struct {
		b     api.Beamline
		plane int
		kicks []api.Kick
		want  api.Errno
	}{
		{api.Beamline{}, 0, nil, api.ErrEmpty}, {b, 0, make([]api.Kick, 101), api.ErrRange}, {b, 1, make([]api.Kick, 101), api.ErrTooLarge},
		{b, 1, []api.Kick{kick(4, 1, "x")}, api.ErrRange}, {b, 1, []api.Kick{kick(0, 3, "1")}, api.ErrRange}, {b, 1, []api.Kick{kick(0, 2, "x")}, api.ErrInvalid},
		{drift, 1, nil, api.ErrSingular},
	} {
		if _, e := Closed(c.b, c.plane, c.kicks); e != c.want {
			t.Errorf("P15.1: Closed, row %d: %d", i, e)
		}
	}
	if _, e := Open(b, 1, api.Vector{}, nil); e != api.ErrInvalid {
		t.Errorf("P15.1: Open: %d", e)
	}
	if _, e := OffMomentum(drift, nil, api.Ratio{}); e != api.ErrInvalid {
		t.Errorf("P15.1: OffMomentum: %d", e)
	}
	if _, e := Dispersion(drift, 2); e != api.ErrSingular {
		t.Errorf("P15.1: Dispersion: %d", e)
	}
	if _, _, e := Peak(nil); e != api.ErrEmpty {
		t.Errorf("P15.1: Peak: %d", e)
	}
	if _, _, e := Peak(make([]api.Vector, 1001)); e != api.ErrTooLarge {
		t.Errorf("P15.1: Peak: %d", e)
	}
	if _, _, e := Peak(make([]api.Vector, 1)); e != api.ErrInvalid {
		t.Errorf("P15.1: Peak: %d", e)
	}
	// With the trace 2 there can be several closed orbits.
	flat := []api.Vector{{Position: sample.Ratio("7"), Angle: exact.Zero()}, {Position: sample.Ratio("7"), Angle: exact.Zero()}}
	if !Check(drift, 1, nil, flat) {
		t.Error("P15.1: Check with the trace 2")
	}
}
