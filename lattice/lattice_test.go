package lattice

import (
	"slices"
	"strings"
	"testing"

	"betatron/api"
	"betatron/sample"
)

const cell = "lattice cell { quad qf strength 1/2; quad qd strength -1/2; drift d length 1; line fodo = qf d qd d; line ring = 4*fodo -fodo; use ring; }"

func parse(t *testing.T, s string) api.Lattice {
	t.Helper()
	l, line, e := Parse(s)
	if e != api.OK || line != 0 {
		t.Fatalf("Parse: %d %d", line, e)
	}
	return l
}

func TestExamples(t *testing.T) {
	l := parse(t, cell)
	text, e := Format(l)
	want := "lattice cell {\n  quad qf strength 1/2 ;\n  quad qd strength - 1/2 ;\n  drift d length 1 ;\n" +
		"  line fodo = qf d qd d ;\n  line ring = 4 * fodo - fodo ;\n  use ring ;\n}\n"
	if text != want || e != api.OK {
		t.Errorf("P10.1: Format: %s %d", text, e)
	}
	if !Same(parse(t, text), l) || !Same(parse(t, strings.ReplaceAll(text, " ", "\t\n # x\n")), l) {
		t.Error("P10.2: Parse of the text")
	}
	if names, e := Uses(l, ""); !slices.Equal(names, []string{"d", "fodo", "qd", "qf"}) || e != api.OK {
		t.Errorf("P10.1: Uses: %v %d", names, e)
	}
	if names, e := Unused(l); len(names) != 0 || e != api.OK {
		t.Errorf("P10.1: Unused: %v %d", names, e)
	}
	l.Use = "fodo"
	if names, _ := Unused(l); !slices.Equal(names, []string{"ring"}) {
		t.Errorf("P10.1: Unused: %v", names)
	}
}

func TestLanguage(t *testing.T) {
	l := parse(t, "lattice a { use r ; bend b length 0.50 strength 1/2 radius 10/2 aperture - 0 ; corrector c plane v aperture 1/100 ; line r = 1 * b 3*-c ; }")
	text, _ := Format(l)
	want := "lattice a {\n  bend b length 1/2 strength 1/2 radius 5 ;\n  corrector c plane v aperture 1/100 ;\n  line r = b 3 * - c ;\n  use r ;\n}\n"
	if text != want {
		t.Errorf("P10.1: %s", text)
	}
	for i, c := range []struct {
		s    string
		line int
		e    api.Errno
	}{
		{"", 1, api.ErrSyntax}, {"lattice a {", 1, api.ErrSyntax}, {"lattice a {\n use x ;", 2, api.ErrSyntax}, {"lattice a { }", 0, api.ErrUnknown},
		{"lattice a { use x ; }", 0, api.ErrUnknown}, {"lattice a { use x ;\n use x ; }", 2, api.ErrSyntax}, {"lattice a { line x = ; use x ; }", 0, api.ErrEmpty},
		{"lattice a { drift d strength 1\n length 1 ; }", 2, api.ErrSyntax}, {"lattice a { drift d length\n 1/0 ; }", 2, api.ErrSingular},
		{"lattice a { drift d length\n - - 1 ; }", 2, api.ErrSyntax}, {"lattice a { line r = 2.0 * d ; }", 1, api.ErrSyntax}, {"lattice a { line r = 2 d ; }", 1, api.ErrSyntax},
		{"lattice a { line r = 1099511627777 * d ; }", 1, api.ErrSyntax}, {"lattice a { line r = 100 * d ; use r ; drift d length 1 ; }", 0, api.ErrRange},
		{"lattice a { drift d length 0 ; }", 0, api.ErrRange}, {"lattice a { }\n }", 2, api.ErrSyntax}, {"lattice a {\n $ }", 2, api.ErrSyntax},
		{"lattice a { corrector c plane x ; }", 1, api.ErrSyntax}, {"lattice 1 { }", 1, api.ErrSyntax}, {"lattice a { \"drift\" d length 1 ; }", 1, api.ErrSyntax},
		{"lattice a { drift d length 1 ; line r = d ; line s = s ; use r ; }", 0, api.ErrState},
	} {
		if l, line, e := Parse(c.s); line != c.line || e != c.e || l.Name != "" {
			t.Errorf("P10.1: row %d: %d %d", i, line, e)
		}
	}
}

func TestValid(t *testing.T) {
	good := parse(t, cell)
	drift := good.Elements[2]
	part := api.Part{Name: "d", Times: 1}
	for i, c := range []struct {
		change func(l *api.Lattice)
		name   string
		e      api.Errno
	}{
		{func(l *api.Lattice) {}, "", 0},
		{func(l *api.Lattice) { l.Name = "A" }, "A", api.ErrSyntax},
		{func(l *api.Lattice) { l.Elements = slices.Repeat([]api.Element{drift}, 61) }, "", api.ErrTooLarge},
		{func(l *api.Lattice) { l.Elements = append(l.Elements, drift) }, "d", api.ErrExists},
		{func(l *api.Lattice) { l.Lines = append(l.Lines, api.Line{Name: "d"}) }, "d", api.ErrExists},
		{func(l *api.Lattice) { l.Lines = append(l.Lines, api.Line{Name: "X"}) }, "X", api.ErrSyntax},
		{func(l *api.Lattice) { l.Lines = append(l.Lines, api.Line{Name: "x"}) }, "x", api.ErrEmpty},
		{func(l *api.Lattice) {
			l.Lines = append(l.Lines, api.Line{Name: "x", Parts: slices.Repeat([]api.Part{part}, 41)})
		}, "x", api.ErrTooLarge},
		{func(l *api.Lattice) { l.Lines = append(l.Lines, api.Line{Name: "x", Parts: []api.Part{{Name: "d"}}}) }, "x", api.ErrRange},
		{func(l *api.Lattice) {
			l.Lines = append(l.Lines, api.Line{Name: "x", Parts: []api.Part{{Name: "y", Times: 1}}})
		}, "y", api.ErrUnknown},
		{func(l *api.Lattice) { l.Lines[0].Parts[1].Name = "ring" }, "fodo", api.ErrState},
		{func(l *api.Lattice) { l.Use = "d" }, "d", api.ErrUnknown},
	} {
		l := parse(t, cell)
		c.change(&l)
		if name, e := Valid(l); name != c.name || e != c.e {
			t.Errorf("P10.1: row %d: %s %d", i, name, e)
		}
	}
}

func TestReplace(t *testing.T) {
	l := parse(t, cell)
	e, err := Find(l, "qf")
	if sample.Text(e.Strength) != "1/2" || err != api.OK {
		t.Errorf("P10.1: Find: %d", err)
	}
	e.Strength = sample.Ratio("7")
	changed, err := Replace(l, e)
	back, _ := Find(changed, "qf")
	names, _ := Uses(changed, "fodo")
	if err != api.OK || sample.Text(back.Strength) != "7" || !slices.Equal(names, []string{"d", "qd", "qf"}) || sample.Text(l.Elements[0].Strength) != "1/2" {
		t.Errorf("P10.2: Replace: %d", err)
	}
	e.Name = "x"
	if _, err := Replace(l, e); err != api.ErrNotFound {
		t.Errorf("P10.1: Replace: %d", err)
	}
	e.Name = "X"
	if _, err := Replace(l, e); err != api.ErrSyntax {
		t.Errorf("P10.1: Replace: %d", err)
	}
	if _, err := Find(l, "fodo"); err != api.ErrNotFound {
		t.Errorf("P10.1: Find: %d", err)
	}
	if _, err := Uses(l, "d"); err != api.ErrNotFound {
		t.Errorf("P10.1: Uses: %d", err)
	}
	long := parse(t, cell)
	long.Elements[0].Strength = sample.Ratio("1/" + strings.Repeat("3", 39))
	if _, err := Format(long); err != api.ErrTooLarge {
		t.Errorf("P10.1: Format: %d", err)
	}
	long.Elements[0].Strength = sample.Ratio("-1/" + strings.Repeat("3", 38))
	if _, err := Format(long); err != api.OK {
		t.Errorf("P10.1: Format: %d", err)
	}
}
