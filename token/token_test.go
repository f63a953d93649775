package token

import (
	"strings"
	"testing"

	"betatron/api"
	"betatron/sample"
)

func texts(l []api.Token) string {
	var words []string
	for _, t := range l {
		words = append(words, string(rune('0'+t.Kind))+t.Text)
	}
	return strings.Join(words, " ")
}

func TestTokens(t *testing.T) {
	for s, want := range map[string]string{
		"a1 = -1.50/3;": "1a1 4= 4- 21.50/3 4;", "2x/y": "22 1x 4/ 1y", "a<=b": "1a 4<= 1b", "a< =b": "1a 4< 4= 1b", "": "", " # x\n": "",
		"\"#a\" # \x00\xff": "3#a", "1/2/3": "21/2 4/ 23", "1/2.": "", "->-&&&|||": "4-> 4- 4&& 4& 4|| 4|", "!=!==": "4!= 4!= 4=", "\"\"": "3",
		"1-> 2": "21 4-> 22", "a_1B": "", "_a": "", "1.5.2": "", "01/007": "201/007", "1.5/x": "21.5 4/ 1x",
	} {
		l, line, e := Tokens(s)
		if texts(l) != want || (e == api.OK) != (line == 0) || e != api.OK && e != api.ErrSyntax {
			t.Errorf("P8.1: %q: %q %d %d", s, texts(l), line, e)
		}
	}
	if l, _, _ := Tokens("a\n#\n\nb \"x\""); l[0].Line != 1 || l[1].Line != 4 || l[2].Line != 4 {
		t.Errorf("P8.1: lines: %v", l)
	}
}

func TestErrors(t *testing.T) {
	name, number, text := strings.Repeat("a", 20), strings.Repeat("1", 40), strings.Repeat("x", 80)
	for i, c := range []struct {
		s    string
		line int
		e    api.Errno
	}{
		{name + " " + number + ` "` + text + `"`, 0, 0}, {"\n" + name + "a", 2, api.ErrTooLarge}, {"\n\n" + number + "1", 3, api.ErrTooLarge},
		{`"` + text + `x"`, 1, api.ErrTooLarge}, {`"` + text + `x`, 1, api.ErrSyntax}, {"a \"x\n\"", 1, api.ErrSyntax}, {"\"\t\"", 1, api.ErrSyntax},
		{"1.->", 1, api.ErrSyntax}, {"a\n$", 2, api.ErrSyntax}, {strings.Repeat("a ", 10001), 0, api.ErrTooLarge}, {strings.Repeat("a ", 4000), 0, 0},
		{strings.Repeat("a ", 4000) + "\nb", 2, api.ErrTooLarge}, {strings.Repeat("a ", 4000) + "\n$", 2, api.ErrSyntax}, {"A", 1, api.ErrSyntax},
		{strings.Repeat("1", 20) + "." + strings.Repeat("1", 20), 1, api.ErrTooLarge},
	} {
		if l, line, e := Tokens(c.s); line != c.line || e != c.e || e != api.OK && l != nil {
			t.Errorf("P8.1: row %d: %d %d", i, line, e)
		}
	}
}

func TestValues(t *testing.T) {
	for _, c := range []struct {
		s, want string
		e       api.Errno
		n       int
		f       api.Errno
	}{
		{"1.50/3", "1/2", 0, 0, api.ErrRange}, {"4/2", "2", 0, 2, 0}, {"007", "7", 0, 7, 0}, {"1/0", "?", api.ErrSingular, 0, api.ErrSingular},
		{"-1", "?", api.ErrSyntax, 0, api.ErrSyntax}, {"", "?", api.ErrSyntax, 0, api.ErrSyntax}, {"1.", "?", api.ErrSyntax, 0, api.ErrSyntax},
		{"1.500/3", "1/2", 0, 0, api.ErrRange}, {"1099511627776", "1099511627776", 0, 1 << 40, 0}, {"1099511627777", "1099511627777", 0, 0, api.ErrRange},
		{"0.0/00", "?", api.ErrSingular, 0, api.ErrSingular}, {"1/010", "1/10", 0, 0, api.ErrRange}, {"0.00", "0", 0, 0, 0},
	} {
		v, e := Value(c.s)
		n, f := Count(c.s)
		if sample.Text(v) != c.want || e != c.e || n != c.n || f != c.f {
			t.Errorf("P8.1: %s: %s %d %d %d", c.s, sample.Text(v), e, n, f)
		}
	}
}

func TestWrite(t *testing.T) {
	l, _, _ := Tokens(`a1 = -1.50/3; "x y" <= b_ # c`)
	s, e := Write(l)
	if s != `a1 = - 1.50/3 ; "x y" <= b_` || e != api.OK {
		t.Errorf("P8.1: Write: %s %d", s, e)
	}
	if back, _, _ := Tokens(s); !Same(back, l) {
		t.Error("P8.2: Tokens of Write")
	}
	for i, bad := range []api.Token{{Kind: 0, Text: "a"}, {Kind: api.TokenName, Text: "A"}, {Kind: api.TokenSign, Text: "<=>"}, {Kind: api.TokenSign},
		{Kind: api.TokenNumber, Text: "1."}, {Kind: api.TokenString, Text: `"`}, {Kind: 5, Text: "a"}, {Kind: api.TokenSign, Text: "= "}} {
		if _, e := Write([]api.Token{bad}); e != api.ErrInvalid {
			t.Errorf("P8.1: row %d: %d", i, e)
		}
	}
	if _, e := Write(make([]api.Token, 4001)); e != api.ErrTooLarge {
		t.Errorf("P8.1: Write: %d", e)
	}
	long := make([]api.Token, 1000)
	for i := range long {
		long[i] = api.Token{Kind: api.TokenName, Text: strings.Repeat("a", 20)}
	}
	if _, e := Write(long); e != api.ErrTooLarge {
		t.Errorf("P8.1: Write: %d", e)
	}
	if Same(l, l[1:]) || !Same([]api.Token{{Kind: 9, Text: "?", Line: 1}}, []api.Token{{Kind: 9, Text: "?"}}) || IsName("a b") || IsName("") || !IsName("a_9") {
		t.Error("P8.1: Same and IsName")
	}
}
