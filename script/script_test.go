package script

import (
	"testing"

	"betatron/api"
)

func TestCursor(t *testing.T) {
	c := Open("a\n= 5")
	if c.Name() != "a" || c.Line() != 2 {
		t.Error("names")
	}
	c.Sign("=")
	if c.Count() != 5 || !c.Ended() || c.Failed() {
		t.Error("counts")
	}
	c.Word("b")
	if line, e := c.Err(); line != 2 || e != api.ErrSyntax {
		t.Errorf("the end: %d %d", line, e)
	}
	if c = Open("$"); !c.Failed() || c.IsKind(api.TokenName) {
		t.Error("errors of tokens")
	}
	if c = Open(""); c.Line() != 1 {
		t.Error("the line of no token")
	}
}
