package procedure

import (
	"maps"
	"slices"

	"betatron/api"
	"betatron/mode"
	"betatron/token"
)

const mostFrom = 20

// fromError returns the error of the modes in which a procedure begins.
func fromError(from []string) api.Errno {
	if len(from) == 0 {
		return api.ErrEmpty
	}
	if len(from) > mostFrom {
		return api.ErrTooLarge
	}
	if slices.ContainsFunc(from, func(name string) bool { return !token.IsName(name) }) {
		return api.ErrSyntax
	}
	return api.OK
}

// flow follows the modes through the statements of a procedure.
type flow struct {
	program api.Program
	begins  []map[string]bool                                 // for each step
	visit   func(step int, s api.Stmt, modes map[string]bool) // is called for each step, perhaps several times
}

// newFlow returns the flow through a procedure that has not begun.
func newFlow(p api.Program, body []api.Stmt) *flow {
	f := &flow{program: p, visit: func(int, api.Stmt, map[string]bool) {}}
	for range countAll(body) {
		f.begins = append(f.begins, map[string]bool{})
	}
	return f
}

// countAll returns the number of statements, the nested ones included.
func countAll(l []api.Stmt) int {
	count := len(l)
	for _, s := range l {
		count += countAll(s.Then) + countAll(s.Else)
	}
	return count
}

// list lets statements, whose first one has a number, begin in some modes, and returns those in which they end.
func (f *flow) list(l []api.Stmt, step int, modes map[string]bool) map[string]bool {
	for _, s := range l {
		maps.Copy(f.begins[step], modes)
		f.visit(step, s, modes)
		modes = f.behind(s, step, modes)
		step += 1 + countAll(s.Then) + countAll(s.Else)
	}
	return modes
}

// behind returns the modes in which a statement ends.
func (f *flow) behind(s api.Stmt, step int, modes map[string]bool) map[string]bool {
	switch s.Kind {
	case api.StmtMode:
		return map[string]bool{s.Name: true}
	case api.StmtCall:
		body := f.program.Procedures[find(f.program, s.Name)].Body
		return newFlow(f.program, body).list(body, 0, modes)
	case api.StmtIf:
		ends := maps.Clone(f.list(s.Then, step+1, modes))
		maps.Copy(ends, f.list(s.Else, step+1+countAll(s.Then), modes))
		return ends
	case api.StmtRepeat:
		for range s.Number {
			modes = f.list(s.Then, step+1, modes)
		}
	}
	return modes
}

// setOf returns the set of some names.
func setOf(names []string) map[string]bool {
	set := map[string]bool{}
	for _, name := range names {
		set[name] = true
	}
	return set
}

// Modes returns for each step (preorder) in which modes it can begin, if the procedure begins in one of some modes.
func Modes(p api.Program, name string, from []string) ([]api.StepModes, api.Errno) {
	c, e := lookup(p, name)
	if e != api.OK {
		return nil, e
	}
	if e := fromError(from); e != api.OK {
		return nil, e
	}
	f := newFlow(p, c.Body)
	f.list(c.Body, 0, setOf(from))
	var l []api.StepModes
	for step, modes := range f.begins {
		l = append(l, api.StepModes{Step: step, Modes: ascending(modes)})
	}
	return l, api.OK
}

// unsafe returns the steps of statements that inject beam in a mode that does not let it, for the modes that let it.
func unsafe(p api.Program, body []api.Stmt, modes, injectable map[string]bool) []int {
	found := map[int]bool{}
	f := newFlow(p, body)
	f.visit = func(step int, s api.Stmt, modes map[string]bool) {
		switch s.Kind {
		case api.StmtInject:
			for name := range modes {
				if !injectable[name] {
					found[step] = true
				}
			}
		case api.StmtCall:
			if len(unsafe(p, p.Procedures[find(p, s.Name)].Body, modes, injectable)) > 0 {
				found[step] = true
			}
		}
	}
	f.list(body, 0, modes)
	var steps []int
	for step := range found {
		steps = append(steps, step)
	}
	slices.Sort(steps)
	return steps
}

// Unsafe returns the steps that inject beam although the mode may not allow it.
func Unsafe(p api.Program, t api.ModeTable, name string, from []string) ([]int, api.Errno) {
	if _, e := Valid(p); e != api.OK {
		return nil, e
	}
	if _, e := mode.Valid(t); e != api.OK {
		return nil, e
	}
	c, e := lookup(p, name)
	if e != api.OK {
		return nil, e
	}
	if e := fromError(from); e != api.OK {
		return nil, e
	}
	injectable := map[string]bool{}
	for _, m := range t.Modes {
		injectable[m.Name] = m.Inject
	}
	return unsafe(p, c.Body, setOf(from), injectable), api.OK
}
