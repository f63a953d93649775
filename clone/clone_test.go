package clone

import (
	"testing"

	"betatron/api"
	"betatron/sample"
)

func TestCopies(t *testing.T) {
	e := api.Element{Name: "a", Length: sample.Ratio("1/2")}
	b := api.Beamline{Places: []api.Place{{Element: e, From: sample.Ratio("3")}}}
	c := Beamline(b)
	c.Places[0].Element.Length.Num.Groups[0] = 7
	c.Places[0].From.Num.Groups[0] = 7
	if sample.Text(b.Places[0].Element.Length, b.Places[0].From) != "1/2 3" {
		t.Error("a copy shares memory")
	}
	s := api.Stmt{Then: []api.Stmt{{Set: []api.Assignment{{Value: api.Value{List: []int{1}}}}}}}
	Statement(s).Then[0].Set[0].Value.List[0] = 2
	if s.Then[0].Set[0].Value.List[0] != 1 || Ratios(nil) != nil {
		t.Error("a copy shares memory")
	}
}
