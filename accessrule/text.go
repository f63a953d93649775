package accessrule

import (
	"strings"

	"betatron/api"
	"betatron/script"
)

// Format returns the text.
func Format(r api.Rules) (string, api.Errno) {
	if e := Valid(r); e != api.OK {
		return "", e
	}
	orAny := func(s string) string {
		if s == "" {
			return anything
		}
		return s
	}
	var text strings.Builder
	for _, rule := range r.List {
		effect := "allow"
		if rule.Effect == api.Deny {
			effect = "deny"
		}
		words := []string{effect, orAny(rule.Role), orAny(rule.Operation), `"` + rule.Device + `"`, orAny(rule.Property)}
		if rule.Mode != "" {
			words = append(words, "in", rule.Mode)
		}
		if rule.Location != "" {
			words = append(words, "from", rule.Location)
		}
		text.WriteString(strings.Join(words, " ") + " ;\n")
	}
	return text.String(), api.OK
}

// Parse returns the rules with a text, or the line of the error.
func Parse(s string) (api.Rules, int, api.Errno) {
	c := script.Open(s)
	var r api.Rules
	for !c.Ended() {
		r.List = append(r.List, parseRule(c))
	}
	if line, e := c.Err(); e != api.OK {
		return api.Rules{}, line, e
	}
	if e := Valid(r); e != api.OK {
		return api.Rules{}, 0, e
	}
	return r, 0, api.OK
}

// parseRule reads a rule.
func parseRule(c *script.Cursor) api.Rule {
	r := api.Rule{Effect: api.Allow}
	if c.Accept(api.TokenName, "deny") {
		r.Effect = api.Deny
	} else {
		c.Word("allow")
	}
	r.Role = nameOrAny(c)
	if t := c.Peek(); t.Kind == api.TokenName && !isOperation(t.Text) && t.Text != anything {
		c.Fail(api.ErrSyntax)
	}
	r.Operation = nameOrAny(c)
	r.Device = c.Take(api.TokenString)
	r.Property = nameOrAny(c)
	if c.Accept(api.TokenName, "in") {
		r.Mode = word(c)
	}
	if c.Accept(api.TokenName, "from") {
		r.Location = word(c)
	}
	c.Sign(";")
	return r
}

// nameOrAny reads a name; any stands for the empty string.
func nameOrAny(c *script.Cursor) string {
	if c.Accept(api.TokenName, anything) {
		return ""
	}
	return c.Name()
}

func word(c *script.Cursor) string {
	if c.Is(api.TokenName, anything) {
		c.Fail(api.ErrSyntax)
	}
	return c.Name()
}
