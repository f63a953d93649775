package console

import (
	"strconv"
	"strings"

	"betatron/api"
)

const (
	mostDigits  = 13
	mostNumbers = 100
	mostModes   = 20
)

// Parts of the form of a command: each stands for a word behind its name, but the last three for all that follows.
const (
	number  = 'n'
	plane   = 'p'
	word    = 'w'
	text    = 't'
	numbers = 'N'
	words   = 'W'
)

// formOf returns the form of a command.
func formOf(name string) string {
	switch name {
	case "inject", "kick", "mask", "new", "unmask", "wait", "zone":
		return "n"
	case "converter", "fault", "ramp":
		return "nn"
	case "map", "optics":
		return "p"
	case "beta", "tune":
		return "pn"
	case "mode":
		return "w"
	case "ends":
		return "ww"
	case "get", "last", "restore":
		return "wn"
	case "diff", "mean":
		return "wnn"
	case "decide":
		return "wwwwww"
	case "lattice", "program", "rules":
		return "t"
	case "create", "trim":
		return "wt"
	case "run":
		return "wwN"
	case "safe":
		return "wwW"
	}
	return ""
}

// arguments are what follows the name of a command, each kind by itself.
type arguments struct {
	numbers []int
	words   []string
	plane   int
	text    string
	more    []string // the words of a list of any length
}

// parseArguments returns what follows behind the name of a command of a form.
func parseArguments(form, rest string, hasRest bool) (arguments, api.Errno) {
	var a arguments
	for _, part := range form {
		if part == numbers || part == words {
			return a.list(part, rest, hasRest)
		}
		if !hasRest {
			return arguments{}, api.ErrSyntax
		}
		if part == text {
			a.text = rest
			if rest == "" {
				return arguments{}, api.ErrSyntax
			}
			return a, api.OK
		}
		var w string
		w, rest, hasRest = strings.Cut(rest, " ")
		if !a.take(part, w) {
			return arguments{}, api.ErrSyntax
		}
	}
	if hasRest {
		return arguments{}, api.ErrSyntax
	}
	return a, api.OK
}

// take takes a word as a part of the form.
func (a *arguments) take(part rune, w string) bool {
	switch part {
	case number:
		n, ok := parseNumber(w)
		a.numbers = append(a.numbers, n)
		return ok
	case plane:
		switch w {
		case "h":
			a.plane = api.Horizontal
		case "v":
			a.plane = api.Vertical
		}
		return a.plane != 0
	}
	a.words = append(a.words, w)
	return w != ""
}

// list takes all words that follow.
func (a *arguments) list(part rune, rest string, hasRest bool) (arguments, api.Errno) {
	for hasRest {
		var w string
		w, rest, hasRest = strings.Cut(rest, " ")
		n, ok := parseNumber(w)
		if w == "" || part == numbers && !ok {
			return arguments{}, api.ErrSyntax
		}
		if part == numbers {
			a.numbers = append(a.numbers, n)
		} else {
			a.more = append(a.more, w)
		}
	}
	if len(a.numbers) > mostNumbers || len(a.more) > mostModes {
		return arguments{}, api.ErrTooLarge
	}
	return *a, api.OK
}

// parseNumber returns the number with some decimal digits.
func parseNumber(w string) (int, bool) {
	digits := strings.TrimPrefix(w, "-")
	n, err := strconv.Atoi(w)
	// Only the text of a number is the same again.
	if err != nil || len(digits) > mostDigits || strconv.Itoa(n) != w {
		return 0, false
	}
	return n, true
}
