// Package samplebeam makes beam lines for the tests of the layers from short texts.
package samplebeam

import (
	"betatron/api"
	"betatron/expand"
	"betatron/lattice"
)

// Line returns the beam line of the elements of a lattice and of a line, both as texts.
func Line(elements, line string) api.Beamline {
	l, _, _ := lattice.Parse("lattice x { " + elements + " line whole_line = " + line + " ; use whole_line ; }")
	b, _ := expand.Expand(l, "")
	return b
}

// Cell returns the cell of two thin lenses of the strength 1/2 and drifts of the length 1.
func Cell() api.Beamline {
	return Line("quad qf strength 1/2 ; quad qd strength - 1/2 ; drift d length 1 ;", "qf d qd d")
}
