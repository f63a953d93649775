package permitlogic

import (
	"math/rand"
	"slices"
	"strings"
	"testing"

	"betatron/api"
)

const example = "permit loss = 2 of (a, b, c) ;\npermit beam = loss & key ;\n"

func parse(t *testing.T, s string) api.Logic {
	t.Helper()
	l, line, e := Parse(s)
	if e != api.OK || line != 0 {
		t.Fatalf("Parse of %q: %d %d", s, line, e)
	}
	return l
}

func text(sets [][]string) string {
	var l []string
	for _, s := range sets {
		l = append(l, strings.Join(s, " "))
	}
	return strings.Join(l, "; ")
}

func TestExamples(t *testing.T) {
	l := parse(t, example)
	names, e := Inputs(l)
	if !slices.Equal(names, []string{"a", "b", "c", "key"}) || e != api.OK {
		t.Errorf("P45.1: Inputs: %v %d", names, e)
	}
	cuts, _ := Cuts(l, "beam")
	paths, _ := Paths(l, "beam")
	if text(cuts) != "key; a b; a c; b c" || text(paths) != "a b key; a c key; b c key" {
		t.Errorf("P45.1: %s and %s", text(cuts), text(paths))
	}
	pairs, e := Pairs(l, "beam")
	if !slices.Equal(pairs, []api.NamePair{{A: "a", B: "b"}, {A: "a", B: "c"}, {A: "b", B: "c"}}) || e != api.OK {
		t.Errorf("P45.1: Pairs: %v %d", pairs, e)
	}
	if s, e := Format(l); s != example || e != api.OK {
		t.Errorf("P45.1: Format: %q %d", s, e)
	}
	if given, e := Evaluate(l, []string{"a", "c", "a"}); !slices.Equal(given, []bool{true, false}) || e != api.OK {
		t.Errorf("P45.1: Evaluate: %v %d", given, e)
	}
	other := parse(t, "permit beam = (a & b | c) & key ;")
	if set, e := Differ(l, other, "beam"); !slices.Equal(set, []string{"c", "key"}) || e != api.OK {
		t.Errorf("P45.1: Differ: %v %d", set, e)
	}
	if _, e := Differ(l, l, "beam"); e != api.ErrNone {
		t.Errorf("P45.1: Differ: %d", e)
	}
}

// some returns a random expression that uses inputs and earlier permits.
func some(r *rand.Rand, names []string, depth int) api.Logical {
	if depth == 0 || r.Intn(3) == 0 {
		return api.Logical{Kind: api.LogicInput, Name: names[r.Intn(len(names))]}
	}
	e := api.Logical{Kind: r.Intn(3) + api.LogicAnd}
	for range r.Intn(2) + 2 {
		e.Kids = append(e.Kids, some(r, names, depth-1))
	}
	if e.Kind == api.LogicVote {
		e.K = r.Intn(len(e.Kids)) + 1
	}
	return e
}

func same(a, b api.Logical) bool {
	return a.Kind == b.Kind && a.Name == b.Name && a.K == b.K && slices.EqualFunc(a.Kids, b.Kids, same)
}

func TestConsequences(t *testing.T) {
	r := rand.New(rand.NewSource(31))
	for range 100 {
		names := []string{"a", "b", "c", "d"}
		var l api.Logic
		for i := range 3 {
			name := "p" + string(rune('0'+i))
			l.Permits = append(l.Permits, api.PermitDef{Name: name, Expr: some(r, names, 3)})
			names = append(names, name)
		}
		s, e := Format(l)
		back := parse(t, strings.ReplaceAll(s, " ", "\n # x\n"))
		for i := range l.Permits {
			if e != api.OK || !same(back.Permits[i].Expr, l.Permits[i].Expr) {
				t.Fatalf("P45.2: %s", s)
			}
		}
		known, _ := Inputs(l)
		cuts, _ := Cuts(l, "p2")
		paths, _ := Paths(l, "p2")
		for _, cut := range cuts {
			for _, path := range paths {
				if !slices.ContainsFunc(cut, func(name string) bool { return slices.Contains(path, name) }) {
					t.Fatal("P45.2: a cut and a path without a common input")
				}
			}
		}
		contains := func(set []string) func(part []string) bool {
			return func(part []string) bool {
				return !slices.ContainsFunc(part, func(name string) bool { return !slices.Contains(set, name) })
			}
		}
		for bits := range 1 << len(known) {
			ok, bad := subset(known, bits), subset(known, (1<<len(known)-1)&^bits)
			given, _ := Evaluate(l, ok)
			if slices.ContainsFunc(paths, contains(ok)) != given[2] || slices.ContainsFunc(cuts, contains(bad)) == given[2] {
				t.Fatalf("P45.2: %s with %v", s, ok)
			}
			more, _ := Evaluate(l, known)
			for i := range given {
				if given[i] && !more[i] {
					t.Fatal("P45.2: not monotone")
				}
			}
		}
	}
}

func TestParse(t *testing.T) {
	deep := func(n int) string {
		return "permit a = " + strings.Repeat("(", n) + "x" + strings.Repeat(")", n) + " ;"
	}
	for i, c := range []struct {
		s, want string
		line    int
		e       api.Errno
	}{
		{"", "", 0, 0}, {"permit a = ((x)) ;", "permit a = x ;\n", 0, 0}, {"permit a = x | y & z | (p | q) & (r & s) ;", "permit a = x | y & z | (p | q) & (r & s) ;\n", 0, 0}, {"permit a = (x | y) | z ;", "permit a = (x | y) | z ;\n", 0, 0},
		{"permit a = 1 of (x | y, p & q, 2 of (u, v)) ;", "permit a = 1 of (x | y, p & q, 2 of (u, v)) ;\n", 0, 0}, {"permit a = of ;", "permit a = of ;\n", 0, 0}, {deep(20), "permit a = x ;\n", 0, 0}, {deep(21), "", 1, api.ErrSyntax},
		{"permit a = x\n", "", 1, api.ErrSyntax}, {"permit a =\nx y ;", "", 2, api.ErrSyntax}, {"permit a = x || y ;", "", 1, api.ErrSyntax}, {"permit a =\n100\nof (x, y) ;", "", 2, api.ErrSyntax}, {"permit a = 1/2 of (x, y) ;", "", 1, api.ErrSyntax},
		{"permit a = 2 of () ;", "", 1, api.ErrSyntax}, {"\npermit a = 1 of (x) ;", "", 2, api.ErrInvalid}, {"permit b = x ;\n\npermit a = 3 of (x, y) ;", "", 3, api.ErrRange}, {"permit a = 0 of (x, y) ;", "", 1, api.ErrRange}, {"permit a = b ;\npermit b = x ;", "", 1, api.ErrOrder},
		{"permit a = a ;", "", 1, api.ErrOrder}, {"permit a = x ;\npermit a = y ;", "", 2, api.ErrExists}, {strings.Repeat("permit a = x ;", 21), "", 0, api.ErrTooLarge}, {"permit a = a1 & a2 & a3 & a4 & a5 & a6 & a7 & a8 & a9 & b1 & b2 & b3 & b4 ;", "", 0, api.ErrTooLarge},
		{"permit a = " + strings.Repeat("x | ", 59) + "x ;", "", 1, api.ErrTooLarge}, {"permit a = " + strings.Repeat("x | ", 58) + "x ;", "permit a = " + strings.Repeat("x | ", 58) + "x ;\n", 0, 0},
		{"permit a = " + strings.Repeat("x & (y | ", 5) + "x" + strings.Repeat(")", 5) + " ;", "", 1, api.ErrTooLarge}, {"permit a = " + strings.Repeat("x & (y | ", 4) + "x & x" + strings.Repeat(")", 4) + " ;", "permit a = " + strings.Repeat("x & (y | ", 4) + "x & x" + strings.Repeat(")", 4) + " ;\n", 0, 0}, {"$", "", 1, api.ErrSyntax}, {"permit a = (x ;", "", 1, api.ErrSyntax},
	} {
		l, line, e := Parse(c.s)
		s, _ := Format(l)
		if s != c.want || line != c.line || e != c.e {
			t.Errorf("P45.1: Parse, row %d: %q %d %d", i, s, line, e)
		}
	}
}

func TestErrors(t *testing.T) {
	in := func(name string) api.Logical { return api.Logical{Kind: api.LogicInput, Name: name} }
	two := []api.Logical{in("x"), in("y")}
	for i, c := range []struct {
		name string
		e    api.Logical
		at   string
		want api.Errno
	}{
		{"A", in("x"), "A", api.ErrSyntax}, {"a", api.Logical{}, "a", api.ErrInvalid}, {"a", api.Logical{Kind: 5, Kids: two}, "a", api.ErrInvalid}, {"a", api.Logical{Kind: 1, Name: "x", Kids: two}, "a", api.ErrInvalid}, {"a", api.Logical{Kind: 1, Name: "x", K: 1}, "a", api.ErrInvalid},
		{"a", api.Logical{Kind: 2, Kids: two[:1]}, "a", api.ErrInvalid}, {"a", api.Logical{Kind: 2, Kids: two, Name: "x"}, "a", api.ErrInvalid}, {"a", api.Logical{Kind: 3, Kids: two, K: 1}, "a", api.ErrInvalid}, {"a", api.Logical{Kind: 4, Kids: two, K: 3}, "a", api.ErrRange},
		{"a", in("X"), "a", api.ErrSyntax}, {"a", in("a"), "a", api.ErrOrder}, {"a", api.Logical{Kind: 4, Kids: two, K: 2}, "", 0}, {"a", api.Logical{Kind: 4, Kids: []api.Logical{in("X"), in("x")}, K: 3}, "a", api.ErrRange},
	} {
		if at, e := Valid(api.Logic{Permits: []api.PermitDef{{Name: c.name, Expr: c.e}}}); at != c.at || e != c.want {
			t.Errorf("P45.1: row %d: %s %d", i, at, e)
		}
	}
	l := parse(t, example)
	if _, e := Cuts(l, "x"); e != api.ErrNotFound {
		t.Errorf("P45.1: Cuts: %d", e)
	}
	if _, e := Evaluate(l, []string{"loss"}); e != api.ErrNotFound {
		t.Errorf("P45.1: Evaluate: %d", e)
	}
	if _, e := Differ(l, parse(t, ""), "beam"); e != api.ErrNotFound {
		t.Errorf("P45.1: Differ: %d", e)
	}
	if _, e := Differ(l, parse(t, "permit beam = d1 & d2 & d3 & d4 & d5 & d6 & d7 & d8 & d9 ;"), "beam"); e != api.ErrTooLarge {
		t.Errorf("P45.1: Differ: %d", e)
	}
}
