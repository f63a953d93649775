package device

import (
	"slices"
	"strconv"
	"strings"

	"betatron/api"
	"betatron/exact"
	"betatron/integer"
	"betatron/ratio"
)

// isUnused reports whether all fields that a type does not use are zero.
func isUnused(v api.Value) bool {
	usesInt := v.Type == api.FieldInt || v.Type == api.FieldBool
	return (usesInt || v.Int == 0) && (v.Type == api.FieldRatio || exact.Same(v.Ratio, api.Ratio{})) &&
		(v.Type == api.FieldText || v.Text == "") && (v.Type == api.FieldList || len(v.List) == 0)
}

// isTextByte reports whether a text may contain a byte.
func isTextByte(c byte) bool { return c >= 32 && c <= 126 && c != '"' }

func isText(s string) bool {
	return !slices.ContainsFunc([]byte(s), func(c byte) bool { return !isTextByte(c) })
}

// valueError returns the error of a value.
func valueError(v api.Value) api.Errno {
	switch {
	case !isType(v.Type) || !isUnused(v):
		return api.ErrInvalid
	case v.Type == api.FieldRatio && !ratio.Valid(v.Ratio):
		return api.ErrInvalid
	case v.Type == api.FieldBool && v.Int != 0 && v.Int != 1:
		return api.ErrInvalid
	case len(v.Text) > mostText || len(v.List) > mostList:
		return api.ErrTooLarge
	case !isText(v.Text):
		return api.ErrSyntax
	case !inRange(v.Int) || slices.ContainsFunc(v.List, func(n int) bool { return !inRange(n) }):
		return api.ErrRange
	}
	return api.OK
}

// FormatValue returns the text of a value.
func FormatValue(v api.Value) (string, api.Errno) {
	if e := valueError(v); e != api.OK {
		return "", e
	}
	switch v.Type {
	case api.FieldInt:
		return strconv.Itoa(v.Int), api.OK
	case api.FieldRatio:
		return ratio.Format(v.Ratio)
	case api.FieldBool:
		return strconv.FormatBool(v.Int == 1), api.OK
	case api.FieldText:
		return `"` + v.Text + `"`, api.OK
	}
	var words []string
	for _, n := range v.List {
		words = append(words, strconv.Itoa(n))
	}
	return "[" + strings.Join(words, ", ") + "]", api.OK
}

// ParseValue returns the value of a type with a text.
func ParseValue(kind int, s string) (api.Value, api.Errno) {
	v := api.Value{Type: kind}
	e := api.OK
	switch kind {
	case api.FieldInt:
		v.Int, e = parseInt(s)
	case api.FieldRatio:
		if strings.Contains(s, ".") {
			return api.Value{}, api.ErrSyntax
		}
		v.Ratio, e = ratio.Parse(s)
	case api.FieldBool:
		e = parseBool(s, &v)
	case api.FieldText:
		e = parseText(s, &v)
	case api.FieldList:
		e = parseList(s, &v)
	default:
		e = api.ErrInvalid
	}
	if e == api.OK {
		e = valueError(v)
	}
	if e != api.OK {
		return api.Value{}, e
	}
	return v, api.OK
}

// parseInt returns an integer; one that is too great for all bounds remains so.
func parseInt(s string) (int, api.Errno) {
	a, e := integer.Parse(s)
	if e == api.ErrSyntax {
		return 0, e
	}
	n, f := integer.Small(a)
	if e != api.OK || f != api.OK {
		return 2 * api.MaxTime, api.OK
	}
	return n, api.OK
}

func parseBool(s string, v *api.Value) api.Errno {
	if s != "true" && s != "false" {
		return api.ErrSyntax
	}
	if s == "true" {
		v.Int = 1
	}
	return api.OK
}

func parseText(s string, v *api.Value) api.Errno {
	inner, opened := strings.CutPrefix(s, `"`)
	inner, closed := strings.CutSuffix(inner, `"`)
	if !opened || !closed || !isText(inner) {
		return api.ErrSyntax
	}
	v.Text = inner
	return api.OK
}

func parseList(s string, v *api.Value) api.Errno {
	inner, opened := strings.CutPrefix(s, "[")
	inner, closed := strings.CutSuffix(inner, "]")
	if !opened || !closed {
		return api.ErrSyntax
	}
	if inner == "" {
		return api.OK
	}
	for _, word := range strings.Split(inner, ", ") {
		n, e := parseInt(word)
		if e != api.OK {
			return e
		}
		v.List = append(v.List, n)
	}
	return api.OK
}
