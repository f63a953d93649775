package supercycle

import (
	"cmp"
	"slices"

	"betatron/api"
	"betatron/limits"
)

const impossible = 1000000

// compare returns the order of states.
func compare(a, b api.Potential) int {
	return cmp.Or(slices.Compare(a.Counts, b.Counts), cmp.Compare(a.Last, b.Last), cmp.Compare(a.Since, b.Since))
}

// key is a state as the key of a map.
type key struct {
	counts      [mostCycles]int
	last, since int
}

func keyOf(s api.Potential) key {
	k := key{last: s.Last, since: s.Since}
	copy(k.counts[:], s.Counts)
	return k
}

// explorer finds the least number of ticks that remain, for all reached states.
type explorer struct {
	timetable api.Timetable
	values    map[key]int
	states    []api.Potential
}

// visit returns the value of a state; it gives up when there are too many of them.
func (x *explorer) visit(s api.Potential) int {
	k := keyOf(s)
	if value, ok := x.values[k]; ok {
		return value
	}
	if len(x.states) > api.MaxStates {
		return 0
	}
	value := impossible
	if slices.Max(s.Counts) == 0 {
		value = 0
	}
	for cycle := range s.Counts {
		if next, ticks, ok := step(x.timetable, s, cycle); ok {
			if rest := x.visit(next); rest != impossible {
				value = min(value, ticks+rest)
			}
		}
	}
	s.Value = value
	x.values[k] = value
	x.states = append(x.states, s)
	return value
}

// Prove returns the potentials that prove that no feasible order is shorter.
func Prove(p api.Timetable) ([]api.Potential, api.Errno) {
	if e := Valid(p); e != api.OK {
		return nil, e
	}
	x := &explorer{timetable: p, values: map[key]int{}}
	x.visit(first(p))
	if len(x.states) > api.MaxStates {
		return nil, api.ErrTooLarge
	}
	slices.SortFunc(x.states, compare)
	return x.states, api.OK
}

// isState reports whether a potential has a state of a timetable.
func isState(p api.Timetable, s api.Potential) bool {
	if len(s.Counts) != len(p.Counts) || !limits.Inside(s.Last, -1, len(p.Cycles)-1) ||
		!limits.Inside(s.Since, 0, p.Recovery) || !limits.Inside(s.Value, -api.MaxTime, api.MaxTime) {
		return false
	}
	for i, count := range s.Counts {
		if !limits.Inside(count, 0, p.Counts[i]) {
			return false
		}
	}
	return true
}

// CheckProof reports whether potentials prove a lower bound.
func CheckProof(p api.Timetable, bound int, l []api.Potential) bool {
	if Valid(p) != api.OK || len(l) > api.MaxStates {
		return false
	}
	for i, s := range l {
		if !isState(p, s) || i > 0 && compare(l[i-1], s) >= 0 {
			return false
		}
	}
	start, ok := slices.BinarySearchFunc(l, first(p), compare)
	if !ok || l[start].Value != bound {
		return false
	}
	for _, s := range l {
		if slices.Max(s.Counts) == 0 && s.Value > 0 {
			return false
		}
		for cycle := range s.Counts {
			next, ticks, ok := step(p, s, cycle)
			if !ok {
				continue
			}
			at, found := slices.BinarySearchFunc(l, next, compare)
			if !found || s.Value > ticks+l[at].Value {
				return false
			}
		}
	}
	return true
}
