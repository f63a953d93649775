// Package clone copies values deeply, so that results share no memory with arguments.
package clone

import (
	"slices"

	"betatron/api"
	"betatron/exact"
)

// List returns a list of copies.
func List[T any](l []T, copy func(T) T) []T {
	if l == nil {
		return nil
	}
	result := make([]T, 0, len(l))
	for _, v := range l {
		result = append(result, copy(v))
	}
	return result
}

// Ratios returns a copy.
func Ratios(l []api.Ratio) []api.Ratio { return List(l, exact.Copy) }

// Interval returns a copy.
func Interval(i api.Interval) api.Interval {
	return api.Interval{Low: exact.Copy(i.Low), High: exact.Copy(i.High)}
}

// Matrix returns a copy.
func Matrix(m api.Matrix) api.Matrix {
	m.Cells = Ratios(m.Cells)
	return m
}

// Poly returns a copy.
func Poly(p api.Poly) api.Poly { return api.Poly{Coeffs: Ratios(p.Coeffs)} }

// Bounds returns a copy.
func Bounds(b api.Bounds) api.Bounds {
	return api.Bounds{Low: exact.Copy(b.Low), High: exact.Copy(b.High)}
}

// Element returns a copy.
func Element(e api.Element) api.Element {
	e.Length, e.Strength = exact.Copy(e.Length), exact.Copy(e.Strength)
	e.Radius, e.Aperture = exact.Copy(e.Radius), exact.Copy(e.Aperture)
	return e
}

// Line returns a copy.
func Line(l api.Line) api.Line {
	l.Parts = slices.Clone(l.Parts)
	return l
}

// Lattice returns a copy.
func Lattice(l api.Lattice) api.Lattice {
	l.Elements, l.Lines = List(l.Elements, Element), List(l.Lines, Line)
	return l
}

// Place returns a copy.
func Place(p api.Place) api.Place {
	p.Element, p.From, p.To = Element(p.Element), exact.Copy(p.From), exact.Copy(p.To)
	return p
}

// Beamline returns a copy.
func Beamline(b api.Beamline) api.Beamline {
	return api.Beamline{Places: List(b.Places, Place)}
}

// Ellipse returns a copy.
func Ellipse(e api.Ellipse) api.Ellipse {
	return api.Ellipse{Gamma: exact.Copy(e.Gamma), Alpha: exact.Copy(e.Alpha), Beta: exact.Copy(e.Beta)}
}

// Vector returns a copy.
func Vector(v api.Vector) api.Vector {
	return api.Vector{Position: exact.Copy(v.Position), Angle: exact.Copy(v.Angle)}
}

// Curve returns a copy.
func Curve(c api.Curve) api.Curve { return api.Curve{Points: slices.Clone(c.Points)} }

// Segment returns a copy.
func Segment(s api.Segment) api.Segment {
	s.Poly = Poly(s.Poly)
	return s
}

// Magnet returns a copy.
func Magnet(m api.Magnet) api.Magnet {
	return api.Magnet{Relays: slices.Clone(m.Relays), Ones: slices.Clone(m.Ones)}
}

// Value returns a copy.
func Value(v api.Value) api.Value {
	v.Ratio, v.List = exact.Copy(v.Ratio), slices.Clone(v.List)
	return v
}

// Assignment returns a copy.
func Assignment(a api.Assignment) api.Assignment {
	a.Value = Value(a.Value)
	return a
}

// Assignments returns a copy.
func Assignments(l []api.Assignment) []api.Assignment { return List(l, Assignment) }

// Property returns a copy.
func Property(p api.Property) api.Property {
	p.Fields = slices.Clone(p.Fields)
	return p
}

// Class returns a copy.
func Class(c api.DeviceClass) api.DeviceClass {
	c.Properties = List(c.Properties, Property)
	return c
}

// Registry returns a copy.
func Registry(r api.Registry) api.Registry {
	return api.Registry{Classes: List(r.Classes, Class), Devices: slices.Clone(r.Devices)}
}

// Buffer returns a copy.
func Buffer(b api.Buffer) api.Buffer {
	b.Samples = slices.Clone(b.Samples)
	return b
}

// Zone returns a copy.
func Zone(z api.Zone) api.Zone {
	z.Doors, z.Keys, z.Points = slices.Clone(z.Doors), slices.Clone(z.Keys), slices.Clone(z.Points)
	return z
}

// MaskTable returns a copy.
func MaskTable(m api.MaskTable) api.MaskTable {
	m.Maskable, m.Limits, m.Masks = slices.Clone(m.Maskable), Curve(m.Limits), slices.Clone(m.Masks)
	return m
}

// Network returns a copy.
func Network(n api.Network) api.Network {
	n.Stations = slices.Clone(n.Stations)
	return n
}

// Loops returns a copy.
func Loops(s api.LoopState) api.LoopState {
	s.Network, s.Local = Network(s.Network), slices.Clone(s.Local)
	return s
}

// Protection returns a copy of a state of the protection.
func Protection(s api.ProtectionState) api.ProtectionState {
	s.Filters, s.Masks, s.Loops, s.Zone = slices.Clone(s.Filters), MaskTable(s.Masks), Loops(s.Loops), Zone(s.Zone)
	return s
}

// Statement returns a copy.
func Statement(s api.Stmt) api.Stmt {
	s.Set, s.Then, s.Else = Assignments(s.Set), Statements(s.Then), Statements(s.Else)
	return s
}

// Statements returns a copy.
func Statements(l []api.Stmt) []api.Stmt { return List(l, Statement) }

// Requirement returns a copy.
func Requirement(r api.Requirement) api.Requirement {
	r.States = slices.Clone(r.States)
	return r
}
