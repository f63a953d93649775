package accessrule

import (
	"math/rand"
	"slices"
	"strings"
	"testing"

	"betatron/api"
)

const example = "allow operator set \"qf*\" current ;\ndeny any set \"*\" any ;\nallow any get \"*\" any ;\n"

func parse(t *testing.T, s string) api.Rules {
	t.Helper()
	r, line, e := Parse(s)
	if e != api.OK || line != 0 {
		t.Fatalf("Parse of %q: %d %d", s, line, e)
	}
	return r
}

func request(s string) api.Request {
	w := strings.Fields(s)
	return api.Request{Role: w[0], Device: w[1], Property: w[2], Operation: w[3], Mode: w[4], Location: w[5]}
}

func TestExamples(t *testing.T) {
	r := parse(t, example)
	if s, e := Format(r); s != example || e != api.OK {
		t.Errorf("P40.2: Format: %q %d", s, e)
	}
	for q, want := range map[string][2]int{"operator qf2 current set m l": {1, 0}, "guest qf2 current set m l": {2, 1}, "guest x y get m l": {1, 2}, "guest x y subscribe m l": {2, -1}} {
		if effect, i, e := Decide(r, request(q)); effect != want[0] || i != want[1] || e != api.OK {
			t.Errorf("P40.1: Decide %s: %d %d %d", q, effect, i, e)
		}
	}
	more := parse(t, example+`allow expert set "qd1" current ;`)
	if l, e := Shadowed(more); !slices.Equal(l, []int{3}) || e != api.OK {
		t.Errorf("P40.1: Shadowed: %v %d", l, e)
	}
	if l, _ := Shadowed(r); len(l) != 0 {
		t.Errorf("P40.1: Shadowed: %v", l)
	}
	other := parse(t, strings.Replace(example, "qf*", "qf1", 1))
	if q, e := Differ(r, other); q != request("operator qf current set a a") || e != api.OK {
		t.Errorf("P40.1: Differ: %v %d", q, e)
	}
	if _, e := Differ(r, r); e != api.ErrNone {
		t.Errorf("P40.2: Differ: %d", e)
	}
}

func TestMatch(t *testing.T) {
	for _, c := range []struct {
		pattern, name string
		want          bool
	}{{"*", "a", true}, {"a*", "a", true}, {"a*", "ab", true}, {"a*", "ba", false}, {"a", "ab", false}, {"a", "a", true}, {"any", "any", false}, {"*", "any", false}, {"any*", "anyx", false}, {"a**", "a", false}, {"", "a", false}, {"*", "A", false}, {"a*b", "axb", false}} {
		if Match(c.pattern, c.name) != c.want {
			t.Errorf("P40.1: Match of %s and %s", c.pattern, c.name)
		}
	}
}

// some returns random rules with few words, so that they meet.
func some(r *rand.Rand) api.Rules {
	pick := func(s ...string) string { return s[r.Intn(len(s))] }
	var rules api.Rules
	for range r.Intn(4) {
		rules.List = append(rules.List, api.Rule{Effect: r.Intn(2) + 1, Role: pick("", "a", "c"), Device: pick("*", "q*", "qf*", "qf1", "a", "qfa*"), Property: pick("", "a", "b"),
			Operation: pick("", "get", "set"), Mode: pick("", "", "off"), Location: pick("", "", "room")})
	}
	return rules
}

func TestConsequences(t *testing.T) {
	r := rand.New(rand.NewSource(26))
	words := []string{"a", "b", "c", "q", "qf", "qf1", "qfa", "qfab", "qfz", "z", "off", "room"}
	for range 200 {
		a, b := some(r), some(r)
		_, e := Differ(a, b)
		shadowed, _ := Shadowed(a)
		var kept api.Rules
		for i, rule := range a.List {
			if !slices.Contains(shadowed, i) {
				kept.List = append(kept.List, rule)
			}
		}
		for range 300 {
			pick := func() string { return words[r.Intn(len(words))] }
			q := api.Request{Role: pick(), Device: pick(), Property: pick(), Operation: []string{"get", "set", "subscribe"}[r.Intn(3)], Mode: pick(), Location: pick()}
			x, index, _ := Decide(a, q)
			y, _, _ := Decide(b, q)
			z, _, _ := Decide(kept, q)
			if e == api.ErrNone && x != y || x != z || slices.Contains(shadowed, index) {
				t.Fatalf("P40.2: %v and %v at %v", a, b, q)
			}
		}
		if q, e := Differ(a, b); e == api.OK {
			x, _, _ := Decide(a, q)
			y, _, _ := Decide(b, q)
			if x == y {
				t.Fatalf("P40.1: Differ: %v", q)
			}
		}
		text, _ := Format(a)
		if back := parse(t, strings.ReplaceAll(text, " ", "\n# x\n ")); !slices.Equal(back.List, a.List) {
			t.Fatalf("P40.2: %s", text)
		}
	}
}

func TestGrants(t *testing.T) {
	grants := []api.Grant{{User: "eva", Role: "operator", Until: 10}, {User: "eva", Role: "expert", Until: 20}, {User: "eva", Role: "expert", Until: 15}, {User: "tom", Role: "guest", Until: 99}}
	for now, want := range map[int][]string{10: {"expert", "operator"}, 11: {"expert"}, 21: nil} {
		if l, e := Roles(grants, "eva", now); !slices.Equal(l, want) || e != api.OK {
			t.Errorf("P40.1: Roles at %d: %v %d", now, l, e)
		}
	}
	r := parse(t, `allow operator set "*" any ; deny expert set "p" any ; allow expert set "q" any ;`)
	for _, c := range []struct {
		user, device string
		now          int
		want         bool
	}{{"eva", "x", 5, true}, {"eva", "p", 5, false}, {"eva", "q", 5, true}, {"eva", "q", 11, true}, {"eva", "x", 11, false}, {"tom", "x", 5, false}, {"ada", "x", 5, false}} {
		q := api.Request{Role: "?", Device: c.device, Property: "y", Operation: "set", Mode: "m", Location: "l"}
		if may, e := May(r, grants, c.user, q, c.now); may != c.want || e != api.OK {
			t.Errorf("P40.1: May %s %s at %d: %v %d", c.user, c.device, c.now, may, e)
		}
	}
}

func TestErrors(t *testing.T) {
	good := api.Rule{Effect: api.Allow, Device: "*"}
	for i, c := range []struct {
		change func(r *api.Rule)
		want   api.Errno
	}{
		{func(r *api.Rule) {}, 0}, {func(r *api.Rule) { r.Effect = 3; r.Device = "" }, api.ErrInvalid}, {func(r *api.Rule) { r.Device = "" }, api.ErrSyntax}, {func(r *api.Rule) { r.Role = "any" }, api.ErrSyntax}, {func(r *api.Rule) { r.Property = "X" }, api.ErrSyntax},
		{func(r *api.Rule) { r.Operation = "any" }, api.ErrSyntax}, {func(r *api.Rule) { r.Mode = "a b" }, api.ErrSyntax}, {func(r *api.Rule) { r.Location = "*" }, api.ErrSyntax}, {func(r *api.Rule) { r.Device = strings.Repeat("a", 20) + "*" }, 0}, {func(r *api.Rule) { r.Device = strings.Repeat("a", 21) }, api.ErrSyntax},
	} {
		rule := good
		c.change(&rule)
		if e := Valid(api.Rules{List: []api.Rule{rule}}); e != c.want {
			t.Errorf("P40.1: row %d: %d", i, e)
		}
	}
	many := api.Rules{List: slices.Repeat([]api.Rule{good}, 13)}
	if _, _, e := Decide(many, api.Request{}); e != api.ErrTooLarge {
		t.Errorf("P40.1: Decide: %d", e)
	}
	if _, _, e := Decide(api.Rules{}, api.Request{}); e != api.ErrSyntax {
		t.Errorf("P40.1: Decide: %d", e)
	}
	var wide api.Rules
	for i := range 12 {
		word := string(rune('a' + i))
		wide.List = append(wide.List, api.Rule{Effect: api.Allow, Role: word, Device: word, Property: word, Mode: word})
	}
	if _, e := Shadowed(wide); e != api.ErrTooLarge {
		t.Errorf("P40.1: Shadowed: %d", e)
	}
	if _, e := Differ(api.Rules{}, wide); e != api.ErrTooLarge {
		t.Errorf("P40.1: Differ: %d", e)
	}
	for i, c := range []struct {
		t    []api.Grant
		user string
		now  int
		want api.Errno
	}{{make([]api.Grant, 61), "", 0, api.ErrTooLarge}, {[]api.Grant{{User: "a", Until: -1}}, "", 0, api.ErrSyntax}, {[]api.Grant{{User: "a", Role: "b", Until: -1}}, "", 0, api.ErrRange}, {nil, "any", -1, api.ErrSyntax}, {nil, "a", -1, api.ErrRange}, {nil, "a", 1<<40 + 1, api.ErrRange}} {
		if _, e := Roles(c.t, c.user, c.now); e != c.want {
			t.Errorf("P40.1: Roles, row %d: %d", i, e)
		}
	}
	if _, e := May(api.Rules{}, nil, "a", api.Request{}, 0); e != api.ErrSyntax {
		t.Errorf("P40.1: May: %d", e)
	}
	for i, c := range []struct {
		s    string
		line int
		e    api.Errno
	}{
		{"", 0, 0}, {"allow any get \"*\" any\n", 1, api.ErrSyntax}, {"allow any\nall \"*\" any ;", 2, api.ErrSyntax}, {"permit", 1, api.ErrSyntax}, {"allow any any \"*\" any in\nany ;", 2, api.ErrSyntax}, {"allow any any \"*\" any from x in y ;", 1, api.ErrSyntax},
		{"allow any any \"A\" any ;", 0, api.ErrSyntax}, {strings.Repeat("allow any any \"*\" any ;", 13), 0, api.ErrTooLarge}, {"allow any any * any ;", 1, api.ErrSyntax}, {"allow any any \"*\" any in in from from ;", 0, 0}, {"\n$", 2, api.ErrSyntax}, {"allow any any \"*\" any in from ;", 0, 0},
	} {
		if _, line, e := Parse(c.s); line != c.line || e != c.e {
			t.Errorf("P40.1: Parse, row %d: %d %d", i, line, e)
		}
	}
}
