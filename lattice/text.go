package lattice

import (
	"strconv"
	"strings"

	"betatron/api"
	"betatron/element"
	"betatron/exact"
	"betatron/ratio"
	"betatron/script"
	"betatron/token"
)

const (
	mostText   = 20000
	mostNumber = 40
)

// Format returns the text.
func Format(l api.Lattice) (string, api.Errno) {
	if _, e := Valid(l); e != api.OK {
		return "", e
	}
	lines := []string{"lattice " + l.Name + " {"}
	for _, e := range l.Elements {
		text, err := elementText(e)
		if err != api.OK {
			return "", err
		}
		lines = append(lines, "  "+text)
	}
	for _, line := range l.Lines {
		lines = append(lines, "  "+lineText(line))
	}
	lines = append(lines, "  use "+l.Use+" ;", "}", "")
	text := strings.Join(lines, "\n")
	if len(text) > mostText {
		return "", api.ErrTooLarge
	}
	return text, api.OK
}

func elementText(e api.Element) (string, api.Errno) {
	words := []string{element.KindName(e.Kind), e.Name}
	put := func(name string, r api.Ratio) api.Errno {
		if exact.IsZero(r) {
			return api.OK
		}
		words = append(words, name)
		if exact.Sign(r) < 0 {
			words = append(words, "-")
		}
		text, _ := ratio.Format(exact.Abs(r))
		words = append(words, text)
		if len(text) > mostNumber {
			return api.ErrTooLarge
		}
		return api.OK
	}
	first := []api.Errno{put("length", e.Length), put("strength", e.Strength), put("radius", e.Radius)}
	if e.Plane == api.Horizontal {
		words = append(words, "plane", "h")
	}
	if e.Plane == api.Vertical {
		words = append(words, "plane", "v")
	}
	for _, err := range append(first, put("aperture", e.Aperture)) {
		if err != api.OK {
			return "", err
		}
	}
	return strings.Join(append(words, ";"), " "), api.OK
}

func lineText(l api.Line) string {
	words := []string{"line", l.Name, "="}
	for _, part := range l.Parts {
		if part.Times != 1 {
			words = append(words, strconv.Itoa(part.Times), "*")
		}
		if part.Reversed {
			words = append(words, "-")
		}
		words = append(words, part.Name)
	}
	return strings.Join(append(words, ";"), " ")
}

// Parse returns the lattice with a text, or the line of the error.
func Parse(s string) (api.Lattice, int, api.Errno) {
	c := script.Open(s)
	var l api.Lattice
	c.Word("lattice")
	l.Name = c.Name()
	c.Sign("{")
	for !c.Failed() && !c.Accept(api.TokenSign, "}") {
		parseItem(c, &l)
	}
	if !c.Ended() {
		c.Fail(api.ErrSyntax)
	}
	if line, e := c.Err(); e != api.OK {
		return api.Lattice{}, line, e
	}
	if _, e := Valid(l); e != api.OK {
		return api.Lattice{}, 0, e
	}
	return l, 0, api.OK
}

// parseItem reads an element, a line, or which line is used.
func parseItem(c *script.Cursor, l *api.Lattice) {
	switch kind := element.KindOf(c.Peek().Text); {
	case c.IsKind(api.TokenName) && kind != 0:
		c.Name()
		l.Elements = append(l.Elements, parseElement(c, kind))
	case c.Accept(api.TokenName, "line"):
		l.Lines = append(l.Lines, parseLine(c))
	case l.Use == "" && c.Accept(api.TokenName, "use"):
		l.Use = c.Name()
		c.Sign(";")
	default:
		c.Fail(api.ErrSyntax)
	}
}

func parseElement(c *script.Cursor, kind int) api.Element {
	e := api.Element{Name: c.Name(), Kind: kind, Length: exact.Zero(), Strength: exact.Zero(), Radius: exact.Zero(), Aperture: exact.Zero()}
	number := func(name string, to *api.Ratio) {
		if c.Accept(api.TokenName, name) {
			*to = parseNumber(c)
		}
	}
	number("length", &e.Length)
	number("strength", &e.Strength)
	number("radius", &e.Radius)
	if c.Accept(api.TokenName, "plane") {
		switch {
		case c.Accept(api.TokenName, "h"):
			e.Plane = api.Horizontal
		case c.Accept(api.TokenName, "v"):
			e.Plane = api.Vertical
		default:
			c.Fail(api.ErrSyntax)
		}
	}
	number("aperture", &e.Aperture)
	c.Sign(";")
	return e
}

// parseNumber reads a number with or without a minus sign.
func parseNumber(c *script.Cursor) api.Ratio {
	negative := c.Accept(api.TokenSign, "-")
	if !c.IsKind(api.TokenNumber) {
		c.Fail(api.ErrSyntax)
		return exact.Zero()
	}
	value, e := token.Value(c.Peek().Text)
	if e != api.OK {
		c.Fail(e)
		return exact.Zero()
	}
	c.Take(api.TokenNumber)
	if negative {
		return exact.Neg(value)
	}
	return value
}

func parseLine(c *script.Cursor) api.Line {
	line := api.Line{Name: c.Name()}
	c.Sign("=")
	for !c.Failed() && !c.Accept(api.TokenSign, ";") {
		part := api.Part{Times: 1}
		if c.IsKind(api.TokenNumber) {
			// Only digits are a number of times.
			if strings.ContainsAny(c.Peek().Text, "./") {
				c.Fail(api.ErrSyntax)
			}
			part.Times = c.Count()
			c.Sign("*")
		}
		part.Reversed = c.Accept(api.TokenSign, "-")
		part.Name = c.Name()
		line.Parts = append(line.Parts, part)
	}
	return line
}
