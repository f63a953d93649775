package mode

import (
	"slices"
	"strings"
	"testing"

	"betatron/api"
)

const example = "mode off { next setup ; } mode setup inject { require magnets = cycled | ramping ; require access = closed ; next off , physics ; } mode physics { require access = closed ; next off ; }"

func parse(t *testing.T, s string) api.ModeTable {
	t.Helper()
	table, line, e := Parse(s)
	if e != api.OK || line != 0 {
		t.Fatalf("Parse of %q: %d %d", s, line, e)
	}
	return table
}

func TestExamples(t *testing.T) {
	table := parse(t, example)
	facts := []api.Fact{{Subsystem: "access", State: "closed"}, {Subsystem: "magnets", State: "idle"}}
	l, e := Violations(table, "setup", facts)
	if len(l) != 1 || l[0].Subsystem != "magnets" || !slices.Equal(l[0].States, []string{"cycled", "ramping"}) || e != api.OK {
		t.Errorf("P49.1: Violations: %v %d", l, e)
	}
	l[0].States[0] = "x"
	if names, e := Satisfied(table, facts); !slices.Equal(names, []string{"off", "physics"}) || e != api.OK {
		t.Errorf("P49.1: Satisfied: %v %d", names, e)
	}
	facts[1].State = "cycled"
	for mode, want := range map[string]bool{"setup": true, "physics": false, "off": false} {
		if ok, e := Injectable(table, mode, facts); ok != want || e != api.OK {
			t.Errorf("P49.1: Injectable in %s: %v %d", mode, ok, e)
		}
	}
	if ok, _ := Injectable(table, "setup", nil); ok {
		t.Error("P49.2: Injectable without facts")
	}
	if way, e := Way(table, "physics", "setup"); !slices.Equal(way, []string{"physics", "off", "setup"}) || e != api.OK {
		t.Errorf("P49.1: Way: %v %d", way, e)
	}
	if way, e := Way(table, "off", "off"); !slices.Equal(way, []string{"off"}) || e != api.OK {
		t.Errorf("P49.1: Way: %v %d", way, e)
	}
	want := "mode off {\n  next setup ;\n}\nmode setup inject {\n  require magnets = cycled | ramping ;\n  require access = closed ;\n  next off , physics ;\n}\nmode physics {\n  require access = closed ;\n  next off ;\n}\n"
	text, e := Format(table)
	again, _ := Format(parse(t, strings.ReplaceAll(text, " ", "\t\n# x\n")))
	if text != want || e != api.OK || again != text {
		t.Errorf("P49.2: Format: %q %d", text, e)
	}
}

func TestWays(t *testing.T) {
	table := parse(t, "mode a { next c , b ; } mode b { next d ; } mode c { next d ; } mode d { } mode e { next a ; } mode f { next e ; }")
	if way, _ := Way(table, "a", "d"); !slices.Equal(way, []string{"a", "c", "d"}) {
		t.Errorf("P49.1: Way: %v", way)
	}
	if l, e := Unreachable(table); !slices.Equal(l, []string{"e", "f"}) || e != api.OK {
		t.Errorf("P49.1: Unreachable: %v %d", l, e)
	}
	if _, e := Way(table, "d", "a"); e != api.ErrNone {
		t.Errorf("P49.1: Way: %d", e)
	}
	if _, e := Way(table, "d", "x"); e != api.ErrNotFound {
		t.Errorf("P49.1: Way: %d", e)
	}
	if _, e := Violations(table, "x", nil); e != api.ErrNotFound {
		t.Errorf("P49.1: Violations: %d", e)
	}
}

func TestParse(t *testing.T) {
	many := func(word string, n int) string {
		var l []string
		for i := range n {
			l = append(l, word+string(rune('a'+i)))
		}
		return strings.Join(l, " | ")
	}
	var requirements, modes strings.Builder
	for i := range 13 {
		requirements.WriteString("require s" + string(rune('a'+i)) + " = x ; ")
	}
	for i := range 21 {
		modes.WriteString("mode m" + string(rune('a'+i)) + " { } ")
	}
	for i, c := range []struct {
		s    string
		line int
		e    api.Errno
	}{
		{"", 0, api.ErrEmpty}, {modes.String(), 0, api.ErrTooLarge}, {"mode a {", 1, api.ErrSyntax}, {"mode a { next ;\n }", 1, api.ErrSyntax}, {"mode a { next b ; require x = y ; }", 1, api.ErrSyntax}, {"mode a { }\nmode a { }", 2, api.ErrExists}, {"mode a { " + requirements.String() + "}", 1, api.ErrTooLarge},
		{"\nmode a { require x = y ; require x = z ; }", 2, api.ErrExists}, {"mode a { require x = " + many("s", 11) + " ; }", 1, api.ErrTooLarge}, {"mode a { require x = " + many("s", 10) + " ; }", 0, 0}, {"mode a { require x = y | y ; }", 1, api.ErrExists},
		{"mode a { next b ; }", 1, api.ErrNotFound}, {"mode a { next a ; }", 1, api.ErrInvalid}, {"mode a { next b , b ; } mode b { }", 1, api.ErrExists}, {"mode inject inject { } mode mode { next inject ; }", 0, 0}, {"mode a { } }", 1, api.ErrSyntax}, {"mode\n1 { }", 2, api.ErrSyntax}, {"mode a { require x = y ; next b ; next b ; }", 1, api.ErrSyntax},
	} {
		if table, line, e := Parse(c.s); line != c.line || e != c.e || e != api.OK && table.Modes != nil {
			t.Errorf("P49.1: Parse, row %d: %d %d", i, line, e)
		}
	}
}

func TestErrors(t *testing.T) {
	for i, c := range []struct {
		m    api.Mode
		name string
		want api.Errno
	}{
		{api.Mode{Name: "A"}, "A", api.ErrSyntax}, {api.Mode{Name: "a", Requires: []api.Requirement{{}}}, "a", api.ErrSyntax}, {api.Mode{Name: "a", Requires: []api.Requirement{{Subsystem: "x"}}}, "a", api.ErrEmpty},
		{api.Mode{Name: "a", Requires: []api.Requirement{{Subsystem: "x", States: []string{"X"}}}}, "a", api.ErrSyntax}, {api.Mode{Name: "a", Next: []string{""}}, "a", api.ErrNotFound},
	} {
		if name, e := Valid(api.ModeTable{Modes: []api.Mode{c.m}}); name != c.name || e != c.want {
			t.Errorf("P49.1: row %d: %s %d", i, name, e)
		}
	}
	table := parse(t, example)
	for i, c := range []struct {
		s    []api.Fact
		want api.Errno
	}{{make([]api.Fact, 61), api.ErrTooLarge}, {[]api.Fact{{Subsystem: "a"}}, api.ErrSyntax}, {[]api.Fact{{Subsystem: "a", State: "b"}, {Subsystem: "a", State: "c"}}, api.ErrExists}} {
		if _, e := Satisfied(table, c.s); e != c.want {
			t.Errorf("P49.1: Satisfied, row %d: %d", i, e)
		}
		if _, e := Injectable(table, "x", c.s); e != c.want {
			t.Errorf("P49.1: Injectable, row %d: %d", i, e)
		}
	}
}
