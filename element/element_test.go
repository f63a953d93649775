package element

import (
	"testing"

	"betatron/api"
	"betatron/exact"
	"betatron/matrix"
	"betatron/sample"
)

func element(kind int, length, strength, radius string, plane int, aperture string) api.Element {
	return api.Element{Name: "e", Kind: kind, Length: sample.Ratio(length), Strength: sample.Ratio(strength),
		Radius: sample.Ratio(radius), Plane: plane, Aperture: sample.Ratio(aperture)}
}

func TestMaps(t *testing.T) {
	quad, bend := element(api.Quad, "2", "1/2", "0", 0, "0"), element(api.Bend, "3", "1/2", "5", 0, "1")
	for i, c := range []struct {
		e     api.Element
		plane int
		want  string
	}{
		{quad, api.Horizontal, "1/2 3/2 0 / -1/2 1/2 0 / 0 0 1"}, {quad, api.Vertical, "3/2 5/2 0 / 1/2 3/2 0 / 0 0 1"},
		{bend, api.Horizontal, "3/5 4 2 / -4/25 3/5 4/5 / 0 0 1"}, {bend, api.Vertical, "1 3 0 / 0 1 0 / 0 0 1"},
		{element(api.Drift, "1/3", "0", "0", 0, "0"), api.Vertical, "1 1/3 0 / 0 1 0 / 0 0 1"},
		{element(api.Sextupole, "0", "7", "0", 0, "0"), api.Horizontal, "1 0 0 / 0 1 0 / 0 0 1"},
	} {
		m, e := Map(c.e, c.plane)
		back, f := Backward(c.e, c.plane)
		if sample.MatrixText(m) != c.want || e != api.OK || f != api.OK {
			t.Errorf("P9.1: row %d: %s %d", i, sample.MatrixText(m), e)
		}
		if det, _ := matrix.Det(m); sample.Text(det) != "1" {
			t.Errorf("P9.2: row %d: determinant %s", i, sample.Text(det))
		}
		j := sample.Matrix("1 0 0 / 0 -1 0 / 0 0 1")
		inverse, _ := matrix.Inverse(m)
		turned, _ := matrix.Mul(j, inverse)
		turned, _ = matrix.Mul(turned, j)
		if sample.MatrixText(turned) != sample.MatrixText(back) {
			t.Errorf("P9.1: row %d: backwards %s", i, sample.MatrixText(back))
		}
	}
}

func TestValid(t *testing.T) {
	for i, c := range []struct {
		e    api.Element
		want api.Errno
	}{
		{element(api.Drift, "1", "0", "0", 0, "1/2"), 0}, {element(api.Drift, "0", "0", "0", 0, "0"), api.ErrRange},
		{element(api.Quad, "0", "-3", "0", 0, "0"), 0}, {element(api.Quad, "-1", "1", "0", 0, "0"), api.ErrRange}, {element(api.Quad, "1", "1", "0", 1, "0"), api.ErrRange},
		{element(api.Bend, "1", "1", "2", 0, "0"), 0}, {element(api.Bend, "1", "3/2", "2", 0, "0"), api.ErrRange}, {element(api.Bend, "1", "0", "2", 0, "0"), api.ErrRange},
		{element(api.Bend, "1", "1", "0", 0, "0"), api.ErrRange}, {element(api.Sextupole, "1", "1", "0", 0, "0"), api.ErrRange},
		{element(api.Corrector, "0", "0", "0", 2, "0"), 0}, {element(api.Corrector, "0", "0", "0", 0, "0"), api.ErrRange}, {element(api.Kicker, "0", "0", "0", 3, "0"), api.ErrRange},
		{element(api.Marker, "0", "1", "0", 0, "0"), api.ErrRange}, {element(api.Collimator, "0", "0", "0", 0, "0"), api.ErrRange},
		{element(api.Collimator, "0", "0", "0", 0, "1/9"), 0}, {element(api.Monitor, "0", "0", "0", 0, "-1"), api.ErrRange},
		{element(11, "0", "0", "0", 0, "0"), api.ErrInvalid}, {element(api.Drift, "x", "0", "0", 0, "0"), api.ErrInvalid}, {api.Element{}, api.ErrSyntax},
	} {
		if e := Valid(c.e); e != c.want {
			t.Errorf("P9.1: row %d: %d", i, e)
		}
	}
}

func TestKinds(t *testing.T) {
	for kind := 1; kind <= 10; kind++ {
		if KindOf(KindName(kind)) != kind {
			t.Errorf("P9.2: kind %d", kind)
		}
	}
	if KindName(0) != "" || KindName(11) != "" || KindOf("") != 0 || KindName(api.Collimator) != "collimator" {
		t.Error("P9.1: names of kinds")
	}
}

func TestKickAndDivide(t *testing.T) {
	corrector, quad := element(api.Corrector, "0", "0", "0", api.Vertical, "0"), element(api.Quad, "0", "1/2", "0", 0, "0")
	if k, e := Kick(corrector, api.Vertical, sample.Ratio("1/2")); sample.Text(k...) != "0 1/2 0" || e != api.OK {
		t.Errorf("P9.1: Kick: %s %d", sample.Text(k...), e)
	}
	if k, e := Kick(corrector, api.Horizontal, sample.Ratio("1/2")); sample.Text(k...) != "0 0 0" || e != api.OK {
		t.Errorf("P9.1: Kick: %s %d", sample.Text(k...), e)
	}
	for i, want := range []api.Errno{api.ErrRange, api.ErrInvalid, api.ErrState} {
		if _, e := Kick(quad, min(i, 1), []api.Ratio{{}, {}, exact.One()}[i]); e != want {
			t.Errorf("P9.1: Kick, row %d: %d", i, e)
		}
	}
	parts, e := Divide(quad, 3)
	if len(parts) != 3 || e != api.OK || sample.Text(parts[2].Strength) != "1/6" {
		t.Errorf("P9.1: Divide: %v %d", parts, e)
	}
	product, _ := matrix.Identity(3)
	for _, part := range parts {
		m, _ := Map(part, 1)
		product, _ = matrix.Mul(m, product)
	}
	whole, _ := Map(quad, 1)
	if sample.MatrixText(whole) != sample.MatrixText(product) {
		t.Error("P9.2: parts of a thin quadrupole")
	}
	if _, e := Divide(quad, 9); e != api.ErrRange {
		t.Errorf("P9.1: Divide: %d", e)
	}
	if _, e := Divide(corrector, 2); e != api.ErrState {
		t.Errorf("P9.1: Divide: %d", e)
	}
	if l, e := Divide(corrector, 1); e != api.OK || !Same(l[0], corrector) || Same(quad, corrector) {
		t.Errorf("P9.1: Divide: %d", e)
	}
	if _, e := Map(quad, 3); e != api.ErrRange {
		t.Errorf("P9.1: Map: %d", e)
	}
}
