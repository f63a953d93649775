package settings

import (
	"math/rand"
	"slices"
	"strconv"
	"strings"
	"testing"

	"betatron/api"
)

func parse(t *testing.T, s string) []api.Assignment {
	t.Helper()
	l, line, e := Parse(s)
	if e != api.OK || line != 0 {
		t.Fatalf("Parse of %q: %d %d", s, line, e)
	}
	return l
}

func text(l []api.Assignment) string {
	s, _ := Format(l)
	return s
}

func line(value int) string { return "quad1 current value int = " + strconv.Itoa(value) + "\n" }

func TestExamples(t *testing.T) {
	base := parse(t, line(100))
	if text(base) != line(100) {
		t.Errorf("P58.1: Format: %q", text(base))
	}
	b, e := Create(New(), "injection", base)
	b, n, f := Trim(b, "injection", parse(t, line(105)), "more")
	if n != 2 || e+f != 0 || b.Versions[1].Comment != "more" {
		t.Errorf("P58.1: Trim: %d %d %d", n, e, f)
	}
	if l, e := Diff(b, "injection", 1, 2); text(l) != line(105) || e != api.OK {
		t.Errorf("P58.1: Diff: %s %d", text(l), e)
	}
	b, n, e = Restore(b, "injection", 1)
	if n != 3 || e != api.OK || b.Versions[2].Comment != "restore 1" || text(b.Versions[2].List) != line(100) || Valid(b) != api.OK {
		t.Errorf("P58.1: Restore: %v %d", b, e)
	}
	if l, e := Diff(b, "injection", 3, 0); len(l) != 0 || e != api.OK {
		t.Errorf("P58.2: Diff: %v %d", l, e)
	}
	for _, c := range []struct {
		a, b, want int
		conflicts  string
	}{{105, 100, 105, ""}, {100, 95, 95, ""}, {105, 95, 100, "quad1 current value"}, {105, 105, 105, ""}} {
		l, conflicts, e := Merge(base, parse(t, line(c.a)), parse(t, line(c.b)))
		if text(l) != line(c.want) || strings.Join(conflicts, ",") != c.conflicts || e != api.OK {
			t.Errorf("P58.1: Merge of %d and %d: %s %v %d", c.a, c.b, text(l), conflicts, e)
		}
	}
}

const all = "a b c bool = true\na b d list = [1, -2]\na c a ratio = -1/2\nb a a text = \"x  = y\"\nb a b int = -7\n"

func TestBook(t *testing.T) {
	b, _ := Create(New(), "m", parse(t, all))
	b, _ = Create(b, "a", parse(t, line(1)))
	b, _ = Create(b, "z", parse(t, line(2)))
	b, n, e := Trim(b, "m", parse(t, "a b d list = []\nb a b int = -7\n"), "")
	if n != 2 || e != api.OK || Valid(b) != api.OK || len(b.Versions) != 4 || b.Versions[2].Name != "m" {
		t.Errorf("P58.1: Trim: %v %d", b, e)
	}
	diff, _ := Diff(b, "m", 1, 2)
	if text(diff) != "a b d list = []\n" {
		t.Errorf("P58.1: Diff: %s", text(diff))
	}
	old, _ := Create(New(), "m", parse(t, all))
	again, _, _ := Trim(old, "m", diff, "")
	x, _ := Get(again, "m", 2)
	y, _ := Get(b, "m", 0)
	first, _ := Get(b, "m", 1)
	if text(x) != text(y) || text(first) != all {
		t.Error("P58.2: Trim by a Diff")
	}
	y[0].Value.Int = 0
	y[2].Value.Ratio.Num.Groups[0] = 9
	if z, _ := Get(b, "m", 0); text(z) != text(x) {
		t.Error("rules: shared memory")
	}
	for i, c := range []struct {
		name, list, comment string
		want                api.Errno
	}{
		{"x", "", "", api.ErrNotFound}, {"m", "", "", api.ErrEmpty}, {"m", "x x x int = 1\n", strings.Repeat("a", 81), api.ErrTooLarge}, {"m", "x x x int = 1\n", "\n", api.ErrSyntax}, {"m", "x x x int = 1\n", "", api.ErrUnknown}, {"m", "b a b text = \"x\"\n", "", api.ErrInvalid}, {"m", "b a b int = -7\n", "", api.ErrNone},
	} {
		l, _, _ := Parse(c.list)
		if _, _, e := Trim(b, c.name, l, c.comment); e != c.want {
			t.Errorf("P58.1: Trim, row %d: %d", i, e)
		}
	}
	for i, c := range []struct {
		name string
		n    int
		want api.Errno
	}{{"x", 0, api.ErrNotFound}, {"m", 3, api.ErrNotFound}, {"m", -1, api.ErrNotFound}, {"m", 2, api.ErrNone}, {"m", 0, api.ErrNone}, {"m", 1, 0}} {
		if _, _, e := Restore(b, c.name, c.n); e != c.want {
			t.Errorf("P58.1: Restore, row %d: %d", i, e)
		}
	}
	if _, e := Get(b, "m", 3); e != api.ErrNotFound {
		t.Errorf("P58.1: Get: %d", e)
	}
	if _, e := Diff(b, "m", 1, 3); e != api.ErrNotFound {
		t.Errorf("P58.1: Diff: %d", e)
	}
	if _, e := Create(b, "X", nil); e != api.ErrSyntax {
		t.Errorf("P58.1: Create: %d", e)
	}
	if _, e := Create(b, "m", parse(t, line(1))); e != api.ErrExists {
		t.Errorf("P58.1: Create: %d", e)
	}
	full := b
	for i := len(full.Versions); i < 200; i++ {
		full, _, _ = Trim(full, "a", parse(t, line(i)), "")
	}
	if _, _, e := Trim(full, "a", parse(t, line(0)), ""); e != api.ErrFull {
		t.Errorf("P58.1: Trim: %d", e)
	}
	if _, _, e := Restore(full, "m", 1); e != api.ErrFull {
		t.Errorf("P58.1: Restore: %d", e)
	}
	if _, e := Create(full, "new", parse(t, line(0))); e != api.ErrFull {
		t.Errorf("P58.1: Create: %d", e)
	}
}

func TestMerge(t *testing.T) {
	r := rand.New(rand.NewSource(42))
	list := func() []api.Assignment {
		var s strings.Builder
		for _, name := range []string{"a", "b", "c"} {
			s.WriteString("d p " + name + " int = " + strconv.Itoa(r.Intn(3)) + "\n")
		}
		return parse(t, s.String())
	}
	for range 200 {
		base, a, b := list(), list(), list()
		x, c, _ := Merge(base, a, b)
		y, d, _ := Merge(base, b, a)
		z, none, _ := Merge(base, a, base)
		if text(x) != text(y) || !slices.Equal(c, d) || text(z) != text(a) || len(none) != 0 {
			t.Fatalf("P58.2: Merge of %s and %s", text(a), text(b))
		}
	}
	for i, c := range []struct {
		base, a, b string
		want       api.Errno
	}{{"", line(1), line(1), api.ErrEmpty}, {line(1), line(1), "", api.ErrEmpty}, {line(1), "a b c int = 1\n", line(1), api.ErrInvalid}, {line(1), line(1), strings.Replace(line(1), "int", "ratio", 1), api.ErrInvalid}} {
		x, _, _ := Parse(c.base)
		y, _, _ := Parse(c.a)
		z, _, _ := Parse(c.b)
		if _, _, e := Merge(x, y, z); e != c.want {
			t.Errorf("P58.1: Merge, row %d: %d", i, e)
		}
	}
}

func TestParse(t *testing.T) {
	if text(parse(t, all)) != all {
		t.Errorf("P58.2: %s", text(parse(t, all)))
	}
	for i, c := range []struct {
		s    string
		line int
		e    api.Errno
	}{
		{"", 0, api.ErrEmpty}, {"a b c int = 1", 1, api.ErrSyntax}, {"a b c int = 1\n\n", 2, api.ErrSyntax}, {"a b c int = 01\n", 1, api.ErrSyntax}, {"a b c num = 1\n", 1, api.ErrSyntax}, {"a b c int 1\n", 1, api.ErrSyntax}, {"a  b c int = 1\n", 1, api.ErrSyntax}, {"A b c int = 1\n", 0, api.ErrSyntax},
		{"a b c int = 1099511627777\n", 1, api.ErrSyntax}, {"a b d int = 1\na b c int = 1\n", 0, api.ErrOrder}, {"a b c int = 1\na b c int = 1\n", 0, api.ErrOrder}, {strings.Repeat("a b c int = 1\n", 51), 0, api.ErrTooLarge}, {strings.Repeat("x", 100001), 0, api.ErrTooLarge}, {"a b c int = 1\nx\n", 2, api.ErrSyntax}, {"a b c int = 1 \n", 1, api.ErrSyntax},
	} {
		if l, line, e := Parse(c.s); line != c.line || e != c.e || l != nil {
			t.Errorf("P58.1: Parse, row %d: %d %d", i, line, e)
		}
	}
}

func TestErrors(t *testing.T) {
	list := parse(t, line(1))
	v := func(name string, number int) api.Version {
		return api.Version{Name: name, Number: number, List: list}
	}
	for i, c := range []struct {
		l    []api.Version
		want api.Errno
	}{
		{make([]api.Version, 201), api.ErrTooLarge}, {[]api.Version{v("A", 1)}, api.ErrSyntax}, {[]api.Version{v("a", 2)}, api.ErrOrder}, {[]api.Version{v("a", 1), v("a", 3)}, api.ErrOrder}, {[]api.Version{v("b", 1), v("a", 1)}, api.ErrOrder}, {[]api.Version{v("a", 1), v("a", 2), v("b", 1)}, 0},
		{[]api.Version{{Name: "a", Number: 1, Comment: strings.Repeat("x", 81)}}, api.ErrTooLarge}, {[]api.Version{{Name: "a", Number: 1, Comment: "\x7f"}}, api.ErrSyntax}, {[]api.Version{{Name: "a", Number: 1}}, api.ErrEmpty},
	} {
		if e := Valid(api.SettingsBook{Versions: c.l}); e != c.want {
			t.Errorf("P58.1: row %d: %d", i, e)
		}
	}
	if _, e := Format([]api.Assignment{{Device: "a", Property: "b", Field: "c"}}); e != api.ErrInvalid {
		t.Errorf("P58.1: Format: %d", e)
	}
}

// TestParseNames: the names of a line are examined with the list, behind the syntax of all lines and the number of them.
func TestParseNames(t *testing.T) {
	for i, c := range []struct {
		s    string
		line int
		e    api.Errno
	}{
		{"   int = 1\n", 0, api.ErrSyntax}, {" b c int = 1\n", 0, api.ErrSyntax}, {"a  c int = 1\n", 0, api.ErrSyntax}, {"a b  int = 1\n", 0, api.ErrSyntax}, {"a b c int = 1\n  c int = 2\n", 0, api.ErrSyntax}, {"A \t 1_ text = \"\"\n", 0, api.ErrSyntax},
		{"   int = 1\nx\n", 2, api.ErrSyntax}, {"   int = 1\n   int = 1", 2, api.ErrSyntax}, {strings.Repeat("   int = 1\n", 51), 0, api.ErrTooLarge}, {"b b c int = 1\na b c int = 1\n   int = 1\n", 0, api.ErrOrder},
		{"  int = 1\n", 1, api.ErrSyntax}, {"    int = 1\n", 1, api.ErrSyntax}, {"a b c  int = 1\n", 1, api.ErrSyntax}, {"a b c d int = 1\n", 1, api.ErrSyntax}, {"   int =  1\n", 1, api.ErrSyntax}, {"    = 1\n", 1, api.ErrSyntax}, {"   int = \n", 1, api.ErrSyntax},
	} {
		if l, line, e := Parse(c.s); line != c.line || e != c.e || len(l) != 0 {
			t.Errorf("P58.1: Parse, row %d: %v %d %d", i, l, line, e)
		}
	}
}
