// Package sample makes values for the tests of the layers from short texts.
package sample

import (
	"strings"

	"betatron/api"
	"betatron/exact"
	"betatron/ratio"
)

// Ratio returns the ratio with a text; the zero value, if there is none.
func Ratio(s string) api.Ratio {
	r, _ := ratio.Parse(s)
	return r
}

// Ratios returns the ratios with texts that are separated by spaces.
func Ratios(s string) []api.Ratio {
	var l []api.Ratio
	for _, word := range strings.Fields(s) {
		l = append(l, Ratio(word))
	}
	return l
}

// Interval returns the interval with two ends.
func Interval(low, high string) api.Interval {
	return api.Interval{Low: Ratio(low), High: Ratio(high)}
}

// Matrix returns the matrix whose rows are separated by slashes between spaces.
func Matrix(s string) api.Matrix {
	rows := strings.Split(s, " / ")
	m := api.Matrix{Rows: len(rows)}
	for _, row := range rows {
		cells := Ratios(row)
		m.Cols = len(cells)
		m.Cells = append(m.Cells, cells...)
	}
	return m
}

// Text returns the texts of ratios, separated by spaces.
func Text(l ...api.Ratio) string {
	var words []string
	for _, r := range l {
		s, e := ratio.Format(r)
		if e != api.OK {
			s = "?"
		}
		words = append(words, s)
	}
	return strings.Join(words, " ")
}

// MatrixText returns the text of a matrix as Matrix takes it.
func MatrixText(m api.Matrix) string {
	var rows []string
	for i := 0; i+m.Cols <= len(m.Cells) && m.Cols > 0; i += m.Cols {
		rows = append(rows, Text(m.Cells[i:i+m.Cols]...))
	}
	return strings.Join(rows, " / ")
}

// Heavy returns a ratio whose numerator and denominator have so many digits, at least one each, before it is reduced;
// the seed decides about the digits.
func Heavy(above, below, seed int) api.Ratio {
	digits := func(n int) string {
		text := []byte{'9'}
		for len(text) < n {
			seed = (seed*1103515245 + 12345) % (1 << 31)
			text = append(text, byte('0'+(seed>>16)%10))
		}
		return string(text)
	}
	var w exact.Work
	return w.Div(Ratio(digits(above)), Ratio(digits(below)))
}
