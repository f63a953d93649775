// Package script reads the small languages token by token: the first token that does not fit is remembered.
package script

import (
	"betatron/api"
	"betatron/token"
)

// Cursor stands at a token of a text. Behind an error it stands at no token any more.
type Cursor struct {
	tokens []api.Token
	at     int
	line   int
	err    api.Errno
}

// Open returns a cursor at the beginning of a text; an error of token.Tokens is remembered.
func Open(s string) *Cursor {
	l, line, e := token.Tokens(s)
	return &Cursor{tokens: l, line: line, err: e}
}

// Err returns the line of the error and the error, or 0 and OK.
func (c *Cursor) Err() (int, api.Errno) { return c.line, c.err }

// Failed reports whether there was an error.
func (c *Cursor) Failed() bool { return c.err != api.OK }

// Ended reports whether nothing remains, perhaps since there was an error.
func (c *Cursor) Ended() bool { return c.Failed() || c.at == len(c.tokens) }

// Line returns the line of the token at which the cursor stands, or of the last one behind the end.
func (c *Cursor) Line() int {
	if len(c.tokens) == 0 {
		return 1
	}
	return c.tokens[min(c.at, len(c.tokens)-1)].Line
}

// Fail remembers an error at this token, if it is the first one.
func (c *Cursor) Fail(e api.Errno) {
	if !c.Failed() {
		c.line, c.err = c.Line(), e
	}
}

// Peek returns the token at which the cursor stands, or none.
func (c *Cursor) Peek() api.Token {
	if c.Ended() {
		return api.Token{}
	}
	return c.tokens[c.at]
}

// Is reports whether the token has a kind and a text.
func (c *Cursor) Is(kind int, text string) bool {
	t := c.Peek()
	return t.Kind == kind && t.Text == text
}

// IsKind reports whether the token has a kind.
func (c *Cursor) IsKind(kind int) bool { return c.Peek().Kind == kind }

// Accept goes on behind the token, if it has a kind and a text, and reports whether it has.
func (c *Cursor) Accept(kind int, text string) bool {
	if !c.Is(kind, text) {
		return false
	}
	c.at++
	return true
}

// Sign goes on behind a sign, which must stand here.
func (c *Cursor) Sign(text string) {
	if !c.Accept(api.TokenSign, text) {
		c.Fail(api.ErrSyntax)
	}
}

// Word goes on behind a word, which must stand here.
func (c *Cursor) Word(text string) {
	if !c.Accept(api.TokenName, text) {
		c.Fail(api.ErrSyntax)
	}
}

// Take returns the text of a token of a kind, which must stand here, and goes on.
func (c *Cursor) Take(kind int) string {
	if !c.IsKind(kind) {
		c.Fail(api.ErrSyntax)
		return ""
	}
	c.at++
	return c.tokens[c.at-1].Text
}

// Name returns a name, which must stand here.
func (c *Cursor) Name() string { return c.Take(api.TokenName) }

// Count returns an integer from 0 to 2^40, which must stand here as a number.
func (c *Cursor) Count() int {
	n, e := token.Count(c.Peek().Text)
	if !c.IsKind(api.TokenNumber) || e != api.OK {
		c.Fail(api.ErrSyntax)
		return 0
	}
	c.at++
	return n
}

// FailAt remembers an error with a line, if it is the first one.
func (c *Cursor) FailAt(line int, e api.Errno) {
	if !c.Failed() {
		c.line, c.err = line, e
	}
}
