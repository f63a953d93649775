package settings

import (
	"strings"

	"betatron/api"
	"betatron/device"
)

const (
	mostText  = 100000
	wordCount = 6
)

// types are the words of the types of values from 1 on.
var types = [...]string{"int", "ratio", "bool", "text", "list"}

// typeOf returns the type with a word, or 0.
func typeOf(word string) int {
	for i, t := range types {
		if t == word {
			return i + api.FieldInt
		}
	}
	return 0
}

// Format returns the text of a version.
func Format(l []api.Assignment) (string, api.Errno) {
	if e := listError(l); e != api.OK {
		return "", e
	}
	var text strings.Builder
	for _, a := range l {
		value, _ := device.FormatValue(a.Value)
		text.WriteString(strings.Join([]string{a.Device, a.Property, a.Field, types[a.Value.Type-api.FieldInt], "=", value}, " ") + "\n")
	}
	return text.String(), api.OK
}

// Parse returns the assignments with a text, or the line of the error.
func Parse(s string) ([]api.Assignment, int, api.Errno) {
	if len(s) > mostText {
		return nil, 0, api.ErrTooLarge
	}
	var l []api.Assignment
	for number := 1; s != ""; number++ {
		line, rest, ended := strings.Cut(s, "\n")
		a, ok := parseLine(line)
		if !ok || !ended {
			return nil, number, api.ErrSyntax
		}
		l = append(l, a)
		s = rest
	}
	if e := listError(l); e != api.OK {
		return nil, 0, e
	}
	return l, 0, api.OK
}

// parseLine returns the assignment of a line. Its names can be any words, the empty one too: listError examines them behind all lines.
func parseLine(line string) (api.Assignment, bool) {
	words := strings.SplitN(line, " ", wordCount)
	if len(words) < wordCount || words[4] != "=" {
		return api.Assignment{}, false
	}
	value, e := device.ParseValue(typeOf(words[3]), words[5])
	return api.Assignment{Device: words[0], Property: words[1], Field: words[2], Value: value}, e == api.OK
}
