package beamcheck

import (
	"testing"

	"betatron/api"
	"betatron/samplebeam"
)

func TestLine(t *testing.T) {
	if Line(api.Beamline{}, 0) != api.ErrEmpty || Line(samplebeam.Cell(), 0) != api.ErrRange || Line(samplebeam.Cell(), 2) != api.OK || IsPlane(3) {
		t.Error("Line")
	}
}
