package procedure

import (
	"math/rand"
	"slices"
	"strings"
	"testing"

	"betatron/api"
	"betatron/mode"
)

func parse(t *testing.T, s string) api.Program {
	t.Helper()
	p, line, e := Parse(s)
	if e != api.OK || line != 0 {
		t.Fatalf("Parse of %q: %d %d", s, line, e)
	}
	return p
}

func table(t *testing.T) api.ModeTable {
	t.Helper()
	m, _, e := mode.Parse("mode off { } mode setup inject { } mode physics inject { }")
	if e != api.OK {
		t.Fatalf("modes: %d", e)
	}
	return m
}

func modesText(l []api.StepModes) string {
	var words []string
	for _, m := range l {
		words = append(words, strings.Join(m.Modes, "+"))
	}
	return strings.Join(words, " ")
}

func TestExamples(t *testing.T) {
	p := parse(t, "procedure fill { if magnets cycled { mode setup ; } inject 4 ; }")
	l, e := Modes(p, "fill", []string{"off"})
	if modesText(l) != "off off off+setup" || l[2].Step != 2 || e != api.OK {
		t.Errorf("P53.1: Modes: %v %d", l, e)
	}
	if steps, e := Unsafe(p, table(t), "fill", []string{"off"}); !slices.Equal(steps, []int{2}) || e != api.OK {
		t.Errorf("P53.1: Unsafe: %v %d", steps, e)
	}
	if steps, _ := Unsafe(p, table(t), "fill", []string{"setup", "physics"}); len(steps) != 0 {
		t.Errorf("P53.1: Unsafe: %v", steps)
	}
	if steps, _ := Unsafe(p, table(t), "fill", []string{"unknown"}); !slices.Equal(steps, []int{2}) {
		t.Errorf("P53.1: Unsafe: %v", steps)
	}
}

const long = `procedure prepare {
  set qf current value = - 5 , qd label text = "a b" , qd on value = true ;
  wait vacuum good within 100 ;
}
procedure fill {
  call prepare ;
  if magnets cycled {
    mode setup ;
  } else {
    repeat 3 {
      check magnets cycled ;
    }
    mode physics ;
  }
  repeat 2 {
    inject 4 ;
    mode off ;
  }
  abort {
    mode off ;
    set qf current value = 0 ;
  }
}
`

func TestText(t *testing.T) {
	p := parse(t, long)
	text, e := Format(p)
	spaced, _ := Format(parse(t, strings.ReplaceAll(strings.ReplaceAll(long, `"a b"`, `"ab"`), " ", "\n # x\n")))
	if text != long || e != api.OK || strings.ReplaceAll(spaced, `"ab"`, `"a b"`) != long {
		t.Errorf("P53.2: Format: %s %d", text, e)
	}
	if n, e := Longest(p, "fill"); n != 1+2+1+5+1+4 || e != api.OK {
		t.Errorf("P53.1: Longest: %d %d", n, e)
	}
	if l, e := Calls(p, "fill"); !slices.Equal(l, []string{"prepare"}) || e != api.OK {
		t.Errorf("P53.1: Calls: %v %d", l, e)
	}
	l, _ := Modes(p, "fill", []string{"b", "a", "b"})
	if want := "a+b a+b a+b a+b a+b a+b physics+setup off+physics+setup off+physics+setup"; modesText(l) != want {
		t.Errorf("P53.1: Modes: %s", modesText(l))
	}
	if steps, _ := Unsafe(p, table(t), "fill", []string{"setup"}); !slices.Equal(steps, []int{7}) {
		t.Errorf("P53.1: Unsafe: %v", steps)
	}
	if l, e := NoAbort(p, []string{"off"}); !slices.Equal(l, []string{"prepare"}) || e != api.OK {
		t.Errorf("P53.1: NoAbort: %v %d", l, e)
	}
	if l, _ := NoAbort(p, nil); !slices.Equal(l, []string{"prepare", "fill"}) {
		t.Errorf("P53.1: NoAbort: %v", l)
	}
}

func TestCalls(t *testing.T) {
	p := parse(t, "procedure a { mode setup ; inject 1 ; } procedure b { inject 1 ; mode off ; } procedure c { call a ; call b ; } procedure d { call a ; call b ; call b ; if x y { call c ; } }")
	if l, _ := Calls(p, "d"); !slices.Equal(l, []string{"a", "b", "c"}) {
		t.Errorf("P53.1: Calls: %v", l)
	}
	l, _ := Modes(p, "d", []string{"off"})
	if modesText(l) != "off setup off off off" {
		t.Errorf("P53.1: Modes: %s", modesText(l))
	}
	// The called procedure decides in which modes it injects.
	if steps, _ := Unsafe(p, table(t), "d", []string{"off"}); !slices.Equal(steps, []int{2}) {
		t.Errorf("P53.1: Unsafe: %v", steps)
	}
}

func TestParse(t *testing.T) {
	nest := func(n int, inner string) string {
		return strings.Repeat("if a b { ", n) + inner + strings.Repeat(" }", n)
	}
	for i, c := range []struct {
		s    string
		line int
		e    api.Errno
	}{
		{"", 0, api.ErrEmpty}, {"procedure a { }", 0, 0}, {"procedure a { abort { } }", 0, 0}, {"procedure a { if x y { mode m ; } else { } }", 0, 0}, {"procedure a { if x y { } }", 1, api.ErrEmpty}, {"\nprocedure a { repeat 2 { } }", 2, api.ErrEmpty},
		{"procedure a { abort { } mode m ; }", 1, api.ErrSyntax}, {"procedure a { abort { abort { } } }", 1, api.ErrSyntax}, {"procedure a { mode m }", 1, api.ErrSyntax}, {"procedure a {\nfly ; }", 2, api.ErrSyntax}, {"procedure a { set a b c = ; }", 1, api.ErrSyntax}, {"procedure a { set a b c = - 0 ; }", 0, 0},
		{"procedure a { set a b c = 1/2 ; }", 1, api.ErrSyntax}, {"procedure a { set ; }", 1, api.ErrSyntax}, {"procedure a { set a b c = - true ; }", 1, api.ErrSyntax}, {"procedure a { inject 101 ; }", 1, api.ErrRange}, {"procedure a { inject - 1 ; }", 1, api.ErrSyntax}, {"procedure a { wait a b within 1001 ; }", 1, api.ErrRange},
		{"procedure a { abort { inject 1 ; } }", 1, api.ErrState}, {"procedure a { } procedure\na { }", 1, api.ErrExists}, {"procedure b { }\nprocedure a { call a ; }", 2, api.ErrOrder}, {"procedure a { call c ; }", 1, api.ErrNotFound}, {strings.Repeat("procedure a { } ", 21), 0, api.ErrTooLarge},
		{"procedure a { " + nest(4, "mode m ;") + " }", 0, 0}, {"procedure a {\n" + nest(5, "mode m ;") + " }", 1, api.ErrTooLarge}, {"procedure a { " + nest(5, "\nif a b { mode m ; }") + " }", 2, api.ErrTooLarge}, {"procedure a { " + nest(5, "\nrepeat 1 { mode m ; }") + " } }", 2, api.ErrSyntax},
		{"procedure a { " + strings.Repeat("mode m ; ", 60) + "}", 0, 0}, {"procedure a { " + strings.Repeat("mode m ; ", 60) + "abort { mode m ; } }", 1, api.ErrTooLarge}, {"procedure a { repeat 9 { repeat 9 { mode m ; mode n ; } } }", 0, 0}, {"procedure a { repeat 9 { repeat 9 { repeat 2 { mode m ; } } } }", 1, api.ErrTooLarge},
		{"procedure a { set " + strings.Repeat("a b c = 1 , ", 10) + "a b c = 1 ; }", 1, api.ErrTooLarge}, {"procedure a { call set ; }", 1, api.ErrNotFound}, {"procedure set { set set set set = 5 ; }", 0, 0}, {"procedure a { } }", 1, api.ErrSyntax}, {"procedure a { if x y { mode m ; } else mode m ; }", 1, api.ErrSyntax}, {"procedure a { mode m ;\n", 1, api.ErrSyntax}, {"$", 1, api.ErrSyntax},
	} {
		if p, line, e := Parse(c.s); line != c.line || e != c.e || e != api.OK && p.Procedures != nil {
			t.Errorf("P53.1: Parse, row %d: %d %d", i, line, e)
		}
	}
}

func TestErrors(t *testing.T) {
	set := func(v api.Value) api.Stmt {
		return api.Stmt{Kind: 1, Set: []api.Assignment{{Device: "a", Property: "b", Field: "c", Value: v}}}
	}
	fact := api.Fact{Subsystem: "a", State: "b"}
	fine := []api.Stmt{{Kind: 4, Name: "m"}}
	for i, c := range []struct {
		s    api.Stmt
		want api.Errno
	}{
		{api.Stmt{}, api.ErrInvalid}, {api.Stmt{Kind: 9}, api.ErrInvalid}, {api.Stmt{Kind: 1, Name: "x"}, api.ErrInvalid}, {api.Stmt{Kind: 4, Name: "x", Number: 1}, api.ErrInvalid}, {api.Stmt{Kind: 4, Name: "x", Fact: fact}, api.ErrInvalid}, {api.Stmt{Kind: 8, Number: 1, Then: fine, Else: fine}, api.ErrInvalid}, {api.Stmt{Kind: 5, Number: 1, Then: fine}, api.ErrInvalid},
		{api.Stmt{Kind: 1}, api.ErrEmpty}, {api.Stmt{Kind: 7, Fact: fact}, api.ErrEmpty}, {api.Stmt{Kind: 7, Then: fine}, api.ErrSyntax}, {api.Stmt{Kind: 4, Name: "M"}, api.ErrSyntax}, {api.Stmt{Kind: 3, Fact: api.Fact{Subsystem: "a"}}, api.ErrSyntax}, {api.Stmt{Kind: 1, Set: make([]api.Assignment, 11)}, api.ErrTooLarge}, {api.Stmt{Kind: 1, Set: make([]api.Assignment, 1)}, api.ErrSyntax},
		{set(api.Value{}), api.ErrInvalid}, {set(api.Value{Type: 5}), api.ErrInvalid}, {set(api.Value{Type: 4, Text: strings.Repeat("a", 81)}), api.ErrInvalid}, {set(api.Value{Type: 1, Int: 1 << 41}), api.ErrInvalid}, {set(api.Value{Type: 3, Int: 1}), 0}, {set(api.Value{Type: 4, Text: strings.Repeat("a", 80)}), 0},
		{api.Stmt{Kind: 8, Number: 10, Then: fine}, api.ErrRange}, {api.Stmt{Kind: 8, Number: 0, Then: fine}, api.ErrRange}, {api.Stmt{Kind: 2, Fact: fact}, api.ErrRange},
	} {
		p := api.Program{Procedures: []api.Procedure{{Name: "p", Body: []api.Stmt{{Kind: 7, Fact: fact, Then: fine, Else: []api.Stmt{c.s}}}}}}
		want := "p"
		if c.want == api.OK {
			want = ""
		}
		if name, e := Valid(p); name != want || e != c.want {
			t.Errorf("P53.1: row %d: %s %d", i, name, e)
		}
	}
	p := parse(t, "procedure a { }")
	for i, c := range []struct {
		name string
		from []string
		want api.Errno
	}{{"b", nil, api.ErrNotFound}, {"a", nil, api.ErrEmpty}, {"a", make([]string, 21), api.ErrTooLarge}, {"a", []string{"x", "X"}, api.ErrSyntax}, {"a", []string{"x"}, 0}} {
		if _, e := Modes(p, c.name, c.from); e != c.want {
			t.Errorf("P53.1: Modes, row %d: %d", i, e)
		}
		if _, e := Unsafe(p, table(t), c.name, c.from); e != c.want {
			t.Errorf("P53.1: Unsafe, row %d: %d", i, e)
		}
	}
	if _, e := Unsafe(p, api.ModeTable{}, "b", nil); e != api.ErrEmpty {
		t.Errorf("P53.1: Unsafe: %d", e)
	}
	if _, e := Longest(p, "b"); e != api.ErrNotFound {
		t.Errorf("P53.1: Longest: %d", e)
	}
}

// P53.2: a run of any choices executes each step only in modes that Modes names.
func TestRuns(t *testing.T) {
	r := rand.New(rand.NewSource(37))
	p := parse(t, long)
	body := p.Procedures[1].Body
	allowed, _ := Modes(p, "fill", []string{"off", "setup"})
	longest, _ := Longest(p, "fill")
	for range 200 {
		at, count := []string{"off", "setup"}[r.Intn(2)], 0
		var run func(l []api.Stmt, step int, top bool)
		run = func(l []api.Stmt, step int, top bool) {
			for _, s := range l {
				count++
				if top && !slices.Contains(allowed[step].Modes, at) {
					t.Fatalf("P53.2: step %d in %s", step, at)
				}
				switch s.Kind {
				case api.StmtMode:
					at = s.Name
				case api.StmtCall:
					run(p.Procedures[find(p, s.Name)].Body, 0, false)
				case api.StmtIf:
					if r.Intn(2) == 0 {
						run(s.Then, step+1, top)
					} else {
						run(s.Else, step+1+countAll(s.Then), top)
					}
				case api.StmtRepeat:
					for range s.Number {
						run(s.Then, step+1, top)
					}
				}
				step += 1 + countAll(s.Then) + countAll(s.Else)
			}
		}
		run(body, 0, true)
		if count > longest {
			t.Fatalf("P53.2: %d statements", count)
		}
	}
}
