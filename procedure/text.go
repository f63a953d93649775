package procedure

import (
	"strconv"
	"strings"

	"betatron/api"
	"betatron/script"
)

// writer writes lines with an indentation.
type writer struct{ text strings.Builder }

func (w *writer) line(level int, words ...string) {
	w.text.WriteString(strings.Repeat("  ", level) + strings.Join(words, " ") + "\n")
}

// Format returns the text.
func Format(p api.Program) (string, api.Errno) {
	if _, e := Valid(p); e != api.OK {
		return "", e
	}
	w := &writer{}
	for _, c := range p.Procedures {
		w.line(0, "procedure", c.Name, "{")
		w.statements(1, c.Body)
		if len(c.Abort) > 0 {
			w.line(1, "abort", "{")
			w.statements(2, c.Abort)
			w.line(1, "}")
		}
		w.line(0, "}")
	}
	return w.text.String(), api.OK
}

func (w *writer) statements(level int, l []api.Stmt) {
	for _, s := range l {
		number := strconv.Itoa(s.Number)
		switch s.Kind {
		case api.StmtSet:
			w.line(level, "set", assignments(s.Set), ";")
		case api.StmtWait:
			w.line(level, "wait", s.Fact.Subsystem, s.Fact.State, "within", number, ";")
		case api.StmtCheck:
			w.line(level, "check", s.Fact.Subsystem, s.Fact.State, ";")
		case api.StmtMode:
			w.line(level, "mode", s.Name, ";")
		case api.StmtInject:
			w.line(level, "inject", number, ";")
		case api.StmtCall:
			w.line(level, "call", s.Name, ";")
		case api.StmtIf:
			w.line(level, "if", s.Fact.Subsystem, s.Fact.State, "{")
			w.statements(level+1, s.Then)
			if len(s.Else) > 0 {
				w.line(level, "}", "else", "{")
				w.statements(level+1, s.Else)
			}
			w.line(level, "}")
		case api.StmtRepeat:
			w.line(level, "repeat", number, "{")
			w.statements(level+1, s.Then)
			w.line(level, "}")
		}
	}
}

// assignments returns the text of assignments.
func assignments(l []api.Assignment) string {
	var parts []string
	for _, a := range l {
		parts = append(parts, strings.Join([]string{a.Device, a.Property, a.Field, "=", valueText(a.Value)}, " "))
	}
	return strings.Join(parts, " , ")
}

// valueText returns the text of a value; the minus sign is a token of its own.
func valueText(v api.Value) string {
	switch {
	case v.Type == api.FieldText:
		return `"` + v.Text + `"`
	case v.Type == api.FieldBool:
		return strconv.FormatBool(v.Int == 1)
	case v.Int < 0:
		return "- " + strconv.Itoa(-v.Int)
	}
	return strconv.Itoa(v.Int)
}

// parser reads programs; deep is the line of the first block that stands too deep, or 0.
type parser struct {
	*script.Cursor
	deep int
}

// Parse returns the program with a text, or the line of the error.
func Parse(s string) (api.Program, int, api.Errno) {
	c := &parser{Cursor: script.Open(s)}
	var p api.Program
	var lines []int
	for !c.Ended() {
		lines = append(lines, c.Line())
		p.Procedures = append(p.Procedures, c.procedure())
	}
	if line, e := c.Err(); e != api.OK {
		return api.Program{}, line, e
	}
	if c.deep > 0 {
		return api.Program{}, c.deep, api.ErrTooLarge
	}
	i, e := check(p)
	switch {
	case e == api.OK:
		return p, 0, api.OK
	case i < 0:
		return api.Program{}, 0, e
	}
	return api.Program{}, lines[i], e
}

func (c *parser) procedure() api.Procedure {
	c.Word("procedure")
	p := api.Procedure{Name: c.Name()}
	c.Sign("{")
	for !c.Failed() && !c.Is(api.TokenSign, "}") && !c.Is(api.TokenName, "abort") {
		p.Body = append(p.Body, c.statement(1))
	}
	if c.Accept(api.TokenName, "abort") {
		p.Abort = c.block(1)
	}
	c.Sign("}")
	return p
}

// block reads statements of a level between braces.
func (c *parser) block(level int) []api.Stmt {
	var l []api.Stmt
	c.Sign("{")
	for !c.Failed() && !c.Accept(api.TokenSign, "}") {
		l = append(l, c.statement(level))
	}
	return l
}

// statement reads a statement that stands at a level.
func (c *parser) statement(level int) api.Stmt {
	line := c.Line()
	var s api.Stmt
	switch word := c.Name(); word {
	case "set":
		s = api.Stmt{Kind: api.StmtSet, Set: c.assignments()}
	case "wait":
		s = api.Stmt{Kind: api.StmtWait, Fact: c.fact()}
		c.Word("within")
		s.Number = c.Count()
	case "check":
		s = api.Stmt{Kind: api.StmtCheck, Fact: c.fact()}
	case "mode":
		s = api.Stmt{Kind: api.StmtMode, Name: c.Name()}
	case "inject":
		s = api.Stmt{Kind: api.StmtInject, Number: c.Count()}
	case "call":
		s = api.Stmt{Kind: api.StmtCall, Name: c.Name()}
	case "if", "repeat":
		if level > mostLevels && c.deep == 0 {
			c.deep = line
		}
		return c.nested(word, level)
	default:
		// The word is read already; the error is that of its line.
		c.FailAt(line, api.ErrSyntax)
	}
	c.Sign(";")
	return s
}

// nested reads what follows behind if or repeat.
func (c *parser) nested(word string, level int) api.Stmt {
	if word == "repeat" {
		return api.Stmt{Kind: api.StmtRepeat, Number: c.Count(), Then: c.block(level + 1)}
	}
	s := api.Stmt{Kind: api.StmtIf, Fact: c.fact(), Then: c.block(level + 1)}
	if c.Accept(api.TokenName, "else") {
		s.Else = c.block(level + 1)
	}
	return s
}

func (c *parser) fact() api.Fact {
	return api.Fact{Subsystem: c.Name(), State: c.Name()}
}

func (c *parser) assignments() []api.Assignment {
	var l []api.Assignment
	for {
		a := api.Assignment{Device: c.Name(), Property: c.Name(), Field: c.Name()}
		c.Sign("=")
		a.Value = c.value()
		l = append(l, a)
		if !c.Accept(api.TokenSign, ",") {
			return l
		}
	}
}

func (c *parser) value() api.Value {
	switch {
	case c.IsKind(api.TokenString):
		return api.Value{Type: api.FieldText, Text: c.Take(api.TokenString)}
	case c.Accept(api.TokenName, "true"):
		return api.Value{Type: api.FieldBool, Int: 1}
	case c.Accept(api.TokenName, "false"):
		return api.Value{Type: api.FieldBool}
	case c.Accept(api.TokenSign, "-"):
		return api.Value{Type: api.FieldInt, Int: -c.Count()}
	}
	return api.Value{Type: api.FieldInt, Int: c.Count()}
}
