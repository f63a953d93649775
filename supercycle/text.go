package supercycle

import (
	"slices"
	"strconv"
	"strings"

	"betatron/api"
	"betatron/script"
)

// Format returns the text.
func Format(p api.Timetable) (string, api.Errno) {
	if e := Valid(p); e != api.OK {
		return "", e
	}
	var text strings.Builder
	for i, c := range p.Cycles {
		words := []string{"cycle", c.Name, "user", c.User, "length", strconv.Itoa(c.Length), "count", strconv.Itoa(p.Counts[i])}
		if c.Injects {
			words = append(words, "injects")
		}
		text.WriteString(strings.Join(words, " ") + " ;\n")
	}
	for _, pair := range p.Forbidden {
		text.WriteString("forbid " + p.Cycles[pair.A].Name + " " + p.Cycles[pair.B].Name + " ;\n")
	}
	text.WriteString("recovery " + strconv.Itoa(p.Recovery) + " ;\n")
	return text.String(), api.OK
}

// Parse returns the problem with a text, or the line of the error.
func Parse(s string) (api.Timetable, int, api.Errno) {
	c := script.Open(s)
	var p api.Timetable
	for c.Accept(api.TokenName, "cycle") {
		parseCycle(c, &p)
	}
	for c.Accept(api.TokenName, "forbid") {
		pair := api.Pair{A: parseName(c, p)}
		pair.B = parseName(c, p)
		p.Forbidden = append(p.Forbidden, pair)
		c.Sign(";")
	}
	c.Word("recovery")
	p.Recovery = c.Count()
	c.Sign(";")
	if !c.Ended() {
		c.Fail(api.ErrSyntax)
	}
	if line, e := c.Err(); e != api.OK {
		return api.Timetable{}, line, e
	}
	if e := Valid(p); e != api.OK {
		return api.Timetable{}, 0, e
	}
	return p, 0, api.OK
}

func parseCycle(c *script.Cursor, p *api.Timetable) {
	var cycle api.CycleSpec
	cycle.Name = c.Name()
	c.Word("user")
	cycle.User = c.Name()
	c.Word("length")
	cycle.Length = c.Count()
	c.Word("count")
	p.Counts = append(p.Counts, c.Count())
	cycle.Injects = c.Accept(api.TokenName, "injects")
	c.Sign(";")
	p.Cycles = append(p.Cycles, cycle)
}

// parseName reads the name of a cycle that stands ahead, and returns its index.
func parseName(c *script.Cursor, p api.Timetable) int {
	i := slices.IndexFunc(p.Cycles, func(cycle api.CycleSpec) bool { return c.Is(api.TokenName, cycle.Name) })
	if i < 0 {
		c.Fail(api.ErrSyntax)
		return 0
	}
	c.Name()
	return i
}
