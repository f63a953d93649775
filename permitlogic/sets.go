package permitlogic

import (
	"cmp"
	"slices"

	"betatron/api"
)

// subset returns the names that a number stands for, bit by bit.
func subset(names []string, bits int) []string {
	var l []string
	for i, name := range names {
		if bits>>i&1 == 1 {
			l = append(l, name)
		}
	}
	return l
}

// compareSets orders sets by their size, and then lexicographically.
func compareSets(a, b []string) int {
	return cmp.Or(cmp.Compare(len(a), len(b)), slices.Compare(a, b))
}

// minimal returns the minimal ones of the sets for which something holds; with a set it holds for all greater ones.
func minimal(names []string, holds func(bits int) bool) [][]string {
	var found [][]string
	for bits := range 1 << len(names) {
		isMinimal := holds(bits)
		for i := range names {
			if isMinimal && bits>>i&1 == 1 && holds(bits&^(1<<i)) {
				isMinimal = false
			}
		}
		if isMinimal {
			found = append(found, subset(names, bits))
		}
	}
	slices.SortFunc(found, compareSets)
	return found
}

// outcomes returns for each set of inputs that are OK whether a permit is given; ErrNotFound.
func outcomes(l api.Logic, permit string) ([]string, []bool, api.Errno) {
	if _, e := Valid(l); e != api.OK {
		return nil, nil, e
	}
	index := find(l, permit)
	if index < 0 {
		return nil, nil, api.ErrNotFound
	}
	names := inputs(l)
	table := make([]bool, 1<<len(names))
	for bits := range table {
		table[bits] = evaluate(l, subset(names, bits))[index]
	}
	return names, table, api.OK
}

// Cuts returns the minimal cuts of a permit.
func Cuts(l api.Logic, permit string) ([][]string, api.Errno) {
	names, table, e := outcomes(l, permit)
	if e != api.OK {
		return nil, e
	}
	all := len(table) - 1
	return minimal(names, func(bits int) bool { return !table[all&^bits] }), api.OK
}

// Paths returns the minimal paths of a permit.
func Paths(l api.Logic, permit string) ([][]string, api.Errno) {
	names, table, e := outcomes(l, permit)
	if e != api.OK {
		return nil, e
	}
	return minimal(names, func(bits int) bool { return table[bits] }), api.OK
}

// Pairs returns the minimal cuts of two inputs.
func Pairs(l api.Logic, permit string) ([]api.NamePair, api.Errno) {
	cuts, e := Cuts(l, permit)
	if e != api.OK {
		return nil, e
	}
	var pairs []api.NamePair
	for _, cut := range cuts {
		if len(cut) == 2 {
			pairs = append(pairs, api.NamePair{A: cut[0], B: cut[1]})
		}
	}
	return pairs, api.OK
}

// Differ returns the first set of inputs on which a permit differs between two logics; ErrNone.
func Differ(a, b api.Logic, permit string) ([]string, api.Errno) {
	for _, l := range []api.Logic{a, b} {
		if _, e := Valid(l); e != api.OK {
			return nil, e
		}
	}
	first, second := find(a, permit), find(b, permit)
	if first < 0 || second < 0 {
		return nil, api.ErrNotFound
	}
	names := append(inputs(a), inputs(b)...)
	slices.Sort(names)
	names = slices.Compact(names)
	if len(names) > mostInputs {
		return nil, api.ErrTooLarge
	}
	var sets [][]string
	for bits := range 1 << len(names) {
		ok := subset(names, bits)
		if evaluate(a, ok)[first] != evaluate(b, ok)[second] {
			sets = append(sets, ok)
		}
	}
	if len(sets) == 0 {
		return nil, api.ErrNone
	}
	return slices.MinFunc(sets, compareSets), api.OK
}
