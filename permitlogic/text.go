package permitlogic

import (
	"strconv"
	"strings"

	"betatron/api"
	"betatron/script"
)

const (
	mostVote        = 99
	mostParentheses = 20
)

// Format returns the text.
func Format(l api.Logic) (string, api.Errno) {
	if _, e := Valid(l); e != api.OK {
		return "", e
	}
	var text strings.Builder
	for _, p := range l.Permits {
		text.WriteString("permit " + p.Name + " = " + expression(p.Expr) + " ;\n")
	}
	return text.String(), api.OK
}

// expression returns the text of an expression.
func expression(e api.Logical) string {
	var kids []string
	for _, kid := range e.Kids {
		s := expression(kid)
		binds := kid.Kind == api.LogicOr && e.Kind != api.LogicVote || kid.Kind == api.LogicAnd && e.Kind == api.LogicAnd
		if binds {
			s = "(" + s + ")"
		}
		kids = append(kids, s)
	}
	switch e.Kind {
	case api.LogicAnd:
		return strings.Join(kids, " & ")
	case api.LogicOr:
		return strings.Join(kids, " | ")
	case api.LogicVote:
		return strconv.Itoa(e.K) + " of (" + strings.Join(kids, ", ") + ")"
	}
	return e.Name
}

// Parse returns the logic with a text, or the line of the error.
func Parse(s string) (api.Logic, int, api.Errno) {
	p := &parser{Cursor: script.Open(s)}
	var l api.Logic
	var lines []int
	for !p.Ended() {
		lines = append(lines, p.Line())
		p.Word("permit")
		permit := api.PermitDef{Name: p.Name()}
		p.Sign("=")
		permit.Expr = p.or()
		p.Sign(";")
		l.Permits = append(l.Permits, permit)
	}
	if line, e := p.Err(); e != api.OK {
		return api.Logic{}, line, e
	}
	i, e := check(l)
	switch {
	case e == api.OK:
		return l, 0, api.OK
	case i < 0:
		return api.Logic{}, 0, e
	}
	return api.Logic{}, lines[i], e
}

// parser reads expressions, inside of so many parentheses.
type parser struct {
	*script.Cursor
	parentheses int
}

// list reads expressions that are separated by a sign; one alone stands for itself.
func (p *parser) list(kind int, sign string, part func() api.Logical) api.Logical {
	e := part()
	if !p.Is(api.TokenSign, sign) {
		return e
	}
	e = api.Logical{Kind: kind, Kids: []api.Logical{e}}
	for p.Accept(api.TokenSign, sign) {
		e.Kids = append(e.Kids, part())
	}
	return e
}

func (p *parser) or() api.Logical { return p.list(api.LogicOr, "|", p.and) }

func (p *parser) and() api.Logical { return p.list(api.LogicAnd, "&", p.primary) }

// open goes into parentheses.
func (p *parser) open() {
	if p.parentheses == mostParentheses {
		p.Fail(api.ErrSyntax)
	}
	p.Sign("(")
	p.parentheses++
}

func (p *parser) close() {
	p.Sign(")")
	p.parentheses--
}

func (p *parser) primary() api.Logical {
	switch {
	case p.Failed():
		return api.Logical{}
	case p.IsKind(api.TokenNumber):
		return p.vote()
	case p.Is(api.TokenSign, "("):
		p.open()
		e := p.or()
		p.close()
		return e
	}
	return api.Logical{Kind: api.LogicInput, Name: p.Name()}
}

func (p *parser) vote() api.Logical {
	before := *p.Cursor
	e := api.Logical{Kind: api.LogicVote, K: p.Count()}
	if e.K > mostVote {
		// The error is that of the number, which is read already.
		*p.Cursor = before
		p.Fail(api.ErrSyntax)
	}
	p.Word("of")
	p.open()
	e.Kids = append(e.Kids, p.or())
	for p.Accept(api.TokenSign, ",") {
		e.Kids = append(e.Kids, p.or())
	}
	p.close()
	return e
}
