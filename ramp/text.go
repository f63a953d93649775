package ramp

import (
	"strconv"
	"strings"

	"betatron/api"
	"betatron/ratio"
)

const (
	mostText       = 20000
	mostTimeDigits = 9
)

// Format returns the text.
func Format(r api.Ramp) (string, api.Errno) {
	if e := Valid(r); e != api.OK {
		return "", e
	}
	var text strings.Builder
	for _, s := range r.Segments {
		words := []string{strconv.Itoa(s.From), strconv.Itoa(s.To)}
		for _, c := range s.Poly.Coeffs {
			word, _ := ratio.Format(c)
			words = append(words, word)
		}
		text.WriteString(strings.Join(words, " ") + "\n")
	}
	return text.String(), api.OK
}

// Parse returns the ramp with a text, or the line of the error.
func Parse(s string) (api.Ramp, int, api.Errno) {
	if len(s) > mostText {
		return api.Ramp{}, 0, api.ErrTooLarge
	}
	var r api.Ramp
	for number := 1; s != ""; number++ {
		line, rest, ended := strings.Cut(s, "\n")
		segment, ok := parseSegment(line)
		if !ok || !ended {
			return api.Ramp{}, number, api.ErrSyntax
		}
		r.Segments = append(r.Segments, segment)
		s = rest
	}
	if e := Valid(r); e != api.OK {
		return api.Ramp{}, 0, e
	}
	return r, 0, api.OK
}

func parseSegment(line string) (api.Segment, bool) {
	words := strings.Split(line, " ")
	if len(words) < 2 || len(words) > 2+mostCoeffs {
		return api.Segment{}, false
	}
	from, ok := parseTime(words[0])
	to, fine := parseTime(words[1])
	s := api.Segment{From: from, To: to}
	for _, word := range words[2:] {
		// A decimal text is read by layer 2, but is not the text of a ratio.
		c, e := ratio.Parse(word)
		if e != api.OK || strings.Contains(word, ".") {
			return api.Segment{}, false
		}
		s.Poly.Coeffs = append(s.Poly.Coeffs, c)
	}
	return s, ok && fine
}

func parseTime(word string) (int, bool) {
	n, err := strconv.Atoi(word)
	if err != nil || n < 0 || len(word) > mostTimeDigits || strconv.Itoa(n) != word {
		return 0, false
	}
	return n, true
}
