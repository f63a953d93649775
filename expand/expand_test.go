package expand_test

import (
	"slices"
	"strings"
	"testing"

	"betatron/api"
	"betatron/expand"
	"betatron/lattice"
	"betatron/sample"
	"betatron/samplebeam"
)

const elements = "quad qf strength 1/2 ; quad qd strength - 1/2 ; drift d length 1 ; "

func lines(t *testing.T, s string) api.Lattice {
	t.Helper()
	l, line, e := lattice.Parse("lattice x { " + elements + s + " }")
	if e != api.OK {
		t.Fatalf("%s: %d %d", s, line, e)
	}
	return l
}

func names(b api.Beamline) string {
	var l []string
	for _, p := range b.Places {
		l = append(l, p.Name)
	}
	return strings.Join(l, " ")
}

func TestExpand(t *testing.T) {
	l := lines(t, "line cell = qf d qd d ; line ring = 2 * cell - cell ; use ring ;")
	b, e := expand.Expand(l, "")
	if names(b) != "qf.1 d.1 qd.1 d.2 qf.2 d.3 qd.2 d.4 d.5 qd.3 d.6 qf.3" || e != api.OK || expand.Valid(b) != api.OK {
		t.Errorf("P11.1: Expand: %s %d", names(b), e)
	}
	if length, _ := expand.Length(b); sample.Text(length) != "6" {
		t.Errorf("P11.1: Length: %s", sample.Text(length))
	}
	if at, e := expand.At(b, sample.Ratio("1")); !slices.Equal(at, []int{1, 2, 3}) || e != api.OK {
		t.Errorf("P11.1: At: %v %d", at, e)
	}
	if i, e := expand.Index(b, "qd.3"); i != 9 || e != api.OK {
		t.Errorf("P11.1: Index: %d %d", i, e)
	}
	if l, e := expand.OfKind(b, api.Quad); !slices.Equal(l, []int{0, 2, 4, 6, 9, 11}) || e != api.OK {
		t.Errorf("P11.1: OfKind: %v %d", l, e)
	}
	// A reversed line in a reversed line.
	nested := lines(t, "line a = qf 2 * qd ; line b = - a d ; line c = - b ; use c ;")
	if b, _ := expand.Expand(nested, "c"); names(b) != "d.1 qf.1 qd.1 qd.2" {
		t.Errorf("P11.1: Expand: %s", names(b))
	}
	if _, e := expand.Expand(l, "qf"); e != api.ErrNotFound {
		t.Errorf("P11.1: Expand: %d", e)
	}
	l.Use = "x"
	if _, e := expand.Expand(l, "ring"); e != api.ErrUnknown {
		t.Errorf("P11.1: Expand: %d", e)
	}
}

func TestTooLong(t *testing.T) {
	var s strings.Builder
	s.WriteString("line a0 = 99 * d ; ")
	for i := 1; i < 20; i++ {
		s.WriteString("line a" + string(rune('a'+i)) + " = 99 * a" + string(rune('a'+i-1)) + " ; ")
	}
	text := strings.Replace(s.String(), "* aa", "* a0", 1) + "use at ;"
	if _, e := expand.Expand(lines(t, text), ""); e != api.ErrTooLarge {
		t.Errorf("P11.1: Expand: %d", e)
	}
	two := lines(t, "line a = 40 * d ; line b = 5 * a ; line c = b d ; use b ;")
	if b, e := expand.Expand(two, ""); len(b.Places) != 200 || e != api.OK {
		t.Errorf("P11.1: 200 places: %d", e)
	}
	if _, e := expand.Expand(two, "c"); e != api.ErrTooLarge {
		t.Errorf("P11.1: 201 places: %d", e)
	}
}

func TestChanges(t *testing.T) {
	b := samplebeam.Cell()
	a := samplebeam.Line(elements, "qd 2 * d")
	back, _ := expand.Reverse(b)
	twice, _ := expand.Reverse(back)
	if names(back) != "d.1 qd.1 d.2 qf.1" || names(twice) != names(b) || expand.Valid(back) != api.OK {
		t.Errorf("P11.2: Reverse: %s", names(back))
	}
	both, e := expand.Join(a, b)
	if names(both) != "qd.1 d.1 d.2 qf.1 d.3 qd.2 d.4" || e != api.OK || expand.Valid(both) != api.OK || sample.Text(both.Places[6].To) != "4" {
		t.Errorf("P11.1: Join: %s %d", names(both), e)
	}
	turned, _ := expand.Rotate(b, 3)
	again, _ := expand.Rotate(turned, 3)
	direct, _ := expand.Rotate(b, 2)
	if names(turned) != "d.1 qf.1 d.2 qd.1" || names(again) != names(direct) {
		t.Errorf("P11.2: Rotate: %s", names(turned))
	}
	turned.Places[0].Element.Length.Num.Groups[0] = 9
	if expand.Valid(b) != api.OK {
		t.Error("rules: shared memory")
	}
}

func TestErrors(t *testing.T) {
	b := samplebeam.Cell()
	for i, c := range []struct {
		change func(b *api.Beamline)
		want   api.Errno
	}{
		{func(b *api.Beamline) { b.Places = nil }, api.ErrEmpty},
		{func(b *api.Beamline) { b.Places = slices.Repeat(b.Places, 51) }, api.ErrTooLarge},
		{func(b *api.Beamline) { b.Places[1].Element.Name = "A" }, api.ErrSyntax},
		{func(b *api.Beamline) { b.Places[3].Element.Length = sample.Ratio("2") }, api.ErrConflict},
		{func(b *api.Beamline) { b.Places[3].Name = "d.3" }, api.ErrInvalid},
		{func(b *api.Beamline) { b.Places[3].To = sample.Ratio("3") }, api.ErrInvalid},
		{func(b *api.Beamline) { b.Places[0].From = sample.Ratio("1") }, api.ErrInvalid},
	} {
		bad := samplebeam.Cell()
		c.change(&bad)
		if e := expand.Valid(bad); e != c.want {
			t.Errorf("P11.1: row %d: %d", i, e)
		}
		if _, e := expand.Join(b, bad); e != c.want {
			t.Errorf("P11.1: Join, row %d: %d", i, e)
		}
	}
	for position, want := range map[string]api.Errno{"-1": api.ErrRange, "2": 0, "9/4": api.ErrRange, "x": api.ErrInvalid} {
		if _, e := expand.At(b, sample.Ratio(position)); e != want {
			t.Errorf("P11.1: At %s: %d", position, e)
		}
	}
	if _, e := expand.Index(b, "d.3"); e != api.ErrNotFound {
		t.Errorf("P11.1: Index: %d", e)
	}
	if _, e := expand.OfKind(b, 11); e != api.ErrRange {
		t.Errorf("P11.1: OfKind: %d", e)
	}
	if _, e := expand.Rotate(b, 4); e != api.ErrRange {
		t.Errorf("P11.1: Rotate: %d", e)
	}
	if _, e := expand.Join(b, samplebeam.Line("drift d length 2 ;", "d")); e != api.ErrConflict {
		t.Errorf("P11.1: Join: %d", e)
	}
	long := samplebeam.Line("drift d length 1 ;", "99 * d 99 * d 2 * d")
	if _, e := expand.Join(long, b); e != api.ErrTooLarge {
		t.Errorf("P11.1: Join: %d", e)
	}
}
