package mode

import (
	"strings"

	"betatron/api"
	"betatron/script"
)

// Format returns the text.
func Format(t api.ModeTable) (string, api.Errno) {
	if _, e := Valid(t); e != api.OK {
		return "", e
	}
	var text strings.Builder
	for _, m := range t.Modes {
		text.WriteString("mode " + m.Name)
		if m.Inject {
			text.WriteString(" inject")
		}
		text.WriteString(" {\n")
		for _, r := range m.Requires {
			text.WriteString("  require " + r.Subsystem + " = " + strings.Join(r.States, " | ") + " ;\n")
		}
		if len(m.Next) > 0 {
			text.WriteString("  next " + strings.Join(m.Next, " , ") + " ;\n")
		}
		text.WriteString("}\n")
	}
	return text.String(), api.OK
}

// Parse returns the table with a text, or the line of the error.
func Parse(s string) (api.ModeTable, int, api.Errno) {
	c := script.Open(s)
	var t api.ModeTable
	var lines []int
	for !c.Ended() {
		lines = append(lines, c.Line())
		t.Modes = append(t.Modes, parseMode(c))
	}
	if line, e := c.Err(); e != api.OK {
		return api.ModeTable{}, line, e
	}
	i, e := check(t)
	switch {
	case e == api.OK:
		return t, 0, api.OK
	case i < 0:
		return api.ModeTable{}, 0, e
	}
	return api.ModeTable{}, lines[i], e
}

func parseMode(c *script.Cursor) api.Mode {
	c.Word("mode")
	m := api.Mode{Name: c.Name()}
	m.Inject = c.Accept(api.TokenName, "inject")
	c.Sign("{")
	for c.Accept(api.TokenName, "require") {
		r := api.Requirement{Subsystem: c.Name()}
		c.Sign("=")
		r.States = parseNames(c, "|")
		m.Requires = append(m.Requires, r)
	}
	if c.Accept(api.TokenName, "next") {
		m.Next = parseNames(c, ",")
	}
	c.Sign("}")
	return m
}

// parseNames reads names that are separated by a sign, up to a semicolon.
func parseNames(c *script.Cursor, sign string) []string {
	names := []string{c.Name()}
	for c.Accept(api.TokenSign, sign) {
		names = append(names, c.Name())
	}
	c.Sign(";")
	return names
}
