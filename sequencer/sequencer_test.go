package sequencer

import (
	"math/rand"
	"slices"
	"strings"
	"testing"

	"betatron/api"
	"betatron/procedure"
)

func parse(t *testing.T, s string) api.Program {
	t.Helper()
	p, line, e := procedure.Parse(s)
	if e != api.OK {
		t.Fatalf("Parse of %q: %d %d", s, line, e)
	}
	return p
}

const body = "procedure fill { check vacuum good ; mode injection ; inject 2 ; mode stable ; "

func TestExamples(t *testing.T) {
	p := parse(t, body+"abort { mode safe ; } }")
	l, e := Ends(p, "fill", "off")
	if !slices.Equal(l, []api.End{{Result: 1, Mode: "stable"}, {Result: 2, Mode: "safe"}}) || e != api.OK {
		t.Errorf("P54.1: Ends: %v %d", l, e)
	}
	if w, e := Witness(p, "fill", "off", l[1]); !slices.Equal(w, []int{0, 1}) || e != api.OK {
		t.Errorf("P54.1: Witness: %v %d", w, e)
	}
	if safe, e := Safe(p, "fill", "off", []string{"safe", "stable"}); !safe || e != api.OK {
		t.Errorf("P54.1: Safe: %v %d", safe, e)
	}
	if safe, _ := Safe(p, "fill", "off", []string{"stable"}); safe {
		t.Error("P54.1: Safe")
	}
	p = parse(t, body+"}")
	if l, _ := Ends(p, "fill", "off"); !slices.Equal(l, []api.End{{Result: 1, Mode: "stable"}, {Result: 3, Mode: "injection"}, {Result: 3, Mode: "off"}}) {
		t.Errorf("P54.1: Ends: %v", l)
	}
}

const long = `procedure sub { set a b c = 1 , a b d = 2 ; } procedure main { call sub ; if x y { repeat 2 { wait v w within 5 ; } } else { inject 3 ; } check p q ; abort { set a b c = 0 ; mode safe ; } }`

func TestLog(t *testing.T) {
	p := parse(t, long)
	for i, c := range []struct {
		outcomes []int
		result   int
		log      string
	}{
		{[]int{1, 1, 1, 1, 1, 1, 1}, 1, "call sub,set 2,if x y,repeat 2,wait v w,wait v w,check p q"}, {[]int{1, 1, 2, 1, 1}, 1, "call sub,set 2,else x y,inject 3 in off,check p q"},
		{[]int{1, 1, 2, 2, 1, 1}, 2, "call sub,set 2,else x y,failed inject 3 in off,set 1,mode safe"}, {[]int{1, 2, 1, 1}, 2, "call sub,failed set 2,set 1,mode safe"}, {[]int{0, 1}, 0, "abort,set 1"}, {nil, 0, ""},
	} {
		r, at, e := Replay(p, "main", "off", c.outcomes)
		if r.Result != c.result || strings.Join(r.Log, ",") != c.log || at != 0 || e != api.OK {
			t.Errorf("P54.1: row %d: %d %v %d", i, r.Result, r.Log, e)
		}
	}
	for i, c := range []struct {
		outcomes []int
		at       int
	}{{[]int{2}, 0}, {[]int{1, 2, 0}, 2}, {[]int{0, 2}, 1}, {[]int{0, 1, 1, 1}, 3}, {[]int{3}, 0}, {[]int{-1}, 0}} {
		if r, at, e := Replay(p, "main", "off", c.outcomes); at != c.at || e != api.ErrState || r.Mode != "" {
			t.Errorf("P54.1: Replay, row %d: %d %d", i, at, e)
		}
	}
	if l, e := Choices(p, "main", "off", nil); !slices.Equal(l, []int{0, 1}) || e != api.OK {
		t.Errorf("P54.1: Choices: %v %d", l, e)
	}
	if l, _ := Choices(p, "main", "off", []int{1}); !slices.Equal(l, []int{0, 1, 2}) {
		t.Errorf("P54.1: Choices: %v", l)
	}
	if l, _ := Choices(p, "main", "off", []int{0}); !slices.Equal(l, []int{1}) {
		t.Errorf("P54.1: Choices: %v", l)
	}
	if l, _ := Choices(p, "main", "off", []int{0, 7, 7, 9, 9}); len(l) != 0 {
		t.Errorf("P54.1: Choices: %v", l)
	}
	if r, e := Execute(p, "main", "off", []int{-1, -1}); strings.Join(r.Log, ",") != "call sub,failed set 2" || !r.Aborting || e != api.OK {
		t.Errorf("P54.1: Execute: %v", r.Log)
	}
	r, _ := Start(p, "main", "off")
	r.Remaining[1].Then[0].Number = 7
	r.Abort[0].Set[0].Device = "x"
	if p.Procedures[1].Body[1].Then[0].Number != 2 || p.Procedures[1].Abort[0].Set[0].Device != "a" {
		t.Error("rules: shared memory")
	}
	empty := parse(t, "procedure e { abort { mode m ; } }")
	if r, _ := Start(empty, "e", "off"); r.Result != api.RunDone {
		t.Errorf("P54.1: Start: %v", r)
	}
	if w, e := Witness(empty, "e", "off", api.End{Result: 1, Mode: "off"}); len(w) != 0 || e != api.OK {
		t.Errorf("P54.1: Witness: %v %d", w, e)
	}
}

func TestConsequences(t *testing.T) {
	p := parse(t, long)
	longest, _ := procedure.Longest(p, "main")
	all, _ := Ends(p, "main", "off")
	r := rand.New(rand.NewSource(38))
	for range 300 {
		var choices []int
		for range longest + 3 {
			choices = append(choices, r.Intn(12)/3)
		}
		run, e := Execute(p, "main", "off", choices)
		if e != api.OK || !slices.Contains(all, endOf(run)) || len(run.Log) > longest+3 {
			t.Fatalf("P54.2: %v %d", run, e)
		}
	}
	for _, end := range all {
		w, e := Witness(p, "main", "off", end)
		run, _, f := Replay(p, "main", "off", w)
		if endOf(run) != end || e+f != 0 {
			t.Fatalf("P54.2: %v", end)
		}
	}
}

func TestErrors(t *testing.T) {
	p := parse(t, body+"}")
	for i, c := range []struct {
		p          api.Program
		name, mode string
		want       api.Errno
	}{{api.Program{}, "x", "", api.ErrEmpty}, {p, "x", "", api.ErrNotFound}, {p, "fill", "", api.ErrSyntax}} {
		if _, e := Start(c.p, c.name, c.mode); e != c.want {
			t.Errorf("P54.1: Start, row %d: %d", i, e)
		}
		if _, e := Execute(c.p, c.name, c.mode, make([]int, 401)); e != c.want {
			t.Errorf("P54.1: Execute, row %d: %d", i, e)
		}
		if _, e := Safe(c.p, c.name, c.mode, nil); e != c.want {
			t.Errorf("P54.1: Safe, row %d: %d", i, e)
		}
	}
	if _, e := Choices(p, "fill", "off", make([]int, 401)); e != api.ErrTooLarge {
		t.Errorf("P54.1: Choices: %d", e)
	}
	if _, _, e := Replay(p, "fill", "off", make([]int, 401)); e != api.ErrTooLarge {
		t.Errorf("P54.1: Replay: %d", e)
	}
	if _, e := Witness(p, "fill", "off", api.End{Result: 1, Mode: "off"}); e != api.ErrNone {
		t.Errorf("P54.1: Witness: %d", e)
	}
	var wide strings.Builder
	for i := range 14 {
		name := "m" + string(rune('a'+i))
		wide.WriteString("if x y { mode " + name + " ; } ")
	}
	many := parse(t, "procedure a { "+wide.String()+strings.Repeat("check x y ; ", 18)+"} procedure b { call a ; call a ; call a ; call a ; }")
	if l, e := Ends(many, "a", "off"); e != api.OK || len(l) == 0 {
		t.Errorf("P54.1: Ends: %d", e)
	}
	if _, e := Ends(many, "b", "off"); e != api.ErrTooLarge {
		t.Errorf("P54.1: Ends: %d", e)
	}
}
