package sequencer

import (
	"cmp"
	"slices"
	"strconv"
	"strings"

	"betatron/api"
)

const mostReached = 2000

// way is a state that is reached, and the outcomes that lead to it.
type way struct {
	run      api.Run
	outcomes []int
}

// writeStatements writes statements so that different lists have different texts.
func writeStatements(text *strings.Builder, l []api.Stmt) {
	for _, s := range l {
		text.WriteString(strings.Join([]string{strconv.Itoa(s.Kind), s.Name, s.Fact.Subsystem, s.Fact.State, strconv.Itoa(s.Number)}, " "))
		for _, a := range s.Set {
			value := strings.Join([]string{strconv.Itoa(a.Value.Type), strconv.Itoa(a.Value.Int), `"` + a.Value.Text + `"`}, " ")
			text.WriteString(strings.Join([]string{",", a.Device, a.Property, a.Field, value}, " "))
		}
		for _, block := range [][]api.Stmt{s.Then, s.Else} {
			text.WriteString("{")
			writeStatements(text, block)
			text.WriteString("}")
		}
		text.WriteString(";")
	}
}

// key returns a text that two states have in common exactly if they are the same, whatever their logs are.
func key(r api.Run) string {
	var text strings.Builder
	text.WriteString(r.Mode + " " + strconv.Itoa(r.Result) + " " + strconv.FormatBool(r.Aborting) + ":")
	writeStatements(&text, r.Remaining)
	return text.String()
}

// ends returns the ends of all runs, each with the first one of the shortest lists of outcomes that lead there:
// states are visited by the length of their lists, and then in their order.
func ends(p api.Program, name, mode string) ([]way, api.Errno) {
	x, r, e := start(p, name, mode)
	if e != api.OK {
		return nil, e
	}
	seen := map[string]bool{key(r): true}
	waiting := []way{{run: r}}
	var found []way
	for len(waiting) > 0 {
		at := waiting[0]
		waiting = waiting[1:]
		if at.run.Result != api.RunGoing {
			found = append(found, at)
		}
		for _, outcome := range outcomes(at.run) {
			next := x.behind(at.run, outcome)
			k := key(next)
			if seen[k] {
				continue
			}
			seen[k] = true
			if len(seen) > mostReached {
				return nil, api.ErrTooLarge
			}
			// The log does not matter here, and would grow.
			next.Log = nil
			waiting = append(waiting, way{next, append(slices.Clone(at.outcomes), outcome)})
		}
	}
	return found, api.OK
}

func endOf(r api.Run) api.End { return api.End{Result: r.Result, Mode: r.Mode} }

// Ends returns all ends (result and mode) of runs, ascending.
func Ends(p api.Program, name, mode string) ([]api.End, api.Errno) {
	found, e := ends(p, name, mode)
	if e != api.OK {
		return nil, e
	}
	var l []api.End
	for _, w := range found {
		l = append(l, endOf(w.run))
	}
	slices.SortFunc(l, func(a, b api.End) int {
		return cmp.Or(cmp.Compare(a.Result, b.Result), strings.Compare(a.Mode, b.Mode))
	})
	return slices.Compact(l), api.OK
}

// Witness returns the shortest choices that lead to an end.
func Witness(p api.Program, name, mode string, end api.End) ([]int, api.Errno) {
	found, e := ends(p, name, mode)
	if e != api.OK {
		return nil, e
	}
	for _, w := range found {
		if endOf(w.run) == end {
			return w.outcomes, api.OK
		}
	}
	return nil, api.ErrNone
}

// Safe reports whether all ends are in some modes.
func Safe(p api.Program, name, mode string, modes []string) (bool, api.Errno) {
	found, e := ends(p, name, mode)
	if e != api.OK {
		return false, e
	}
	isElsewhere := func(w way) bool { return !slices.Contains(modes, w.run.Mode) }
	return !slices.ContainsFunc(found, isElsewhere), api.OK
}
