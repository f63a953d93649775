// Package beamcheck has the errors with which most functions of beam lines begin.
package beamcheck

import (
	"betatron/api"
	"betatron/expand"
)

// IsPlane reports whether there is a plane with a number.
func IsPlane(plane int) bool { return plane == api.Horizontal || plane == api.Vertical }

// Line returns the error of a beam line and a plane.
func Line(b api.Beamline, plane int) api.Errno {
	if e := expand.Valid(b); e != api.OK {
		return e
	}
	if !IsPlane(plane) {
		return api.ErrRange
	}
	return api.OK
}
