package zone

import (
	"slices"

	"betatron/api"
	"betatron/limits"
)

// bits returns the number of a list in which some elements are set.
func bits(l []bool, set bool) int {
	n := 0
	for i, b := range l {
		if b == set {
			n += 1 << i
		}
	}
	return n
}

// number returns the number of a zone.
func number(z api.Zone) int {
	n := (z.State-1)<<len(z.Doors) + bits(z.Doors, true)
	n = n<<len(z.Keys) + bits(z.Keys, false)
	n = n<<len(z.Points) + bits(z.Points, true)
	n <<= 1
	if z.Searched {
		n++
	}
	return n
}

// take returns the lowest bits of a number as a list, and what remains of the number.
func take(n, length int, set bool) ([]bool, int) {
	l := make([]bool, length)
	for i := range l {
		l[i] = (n>>i&1 == 1) == set
	}
	return l, n >> length
}

// withNumber returns the zone of the size of another one that has a number; false if there is none.
func withNumber(z api.Zone, n int) (api.Zone, bool) {
	if n < 0 {
		return api.Zone{}, false
	}
	result := api.Zone{Searched: n&1 == 1}
	n >>= 1
	result.Points, n = take(n, len(z.Points), true)
	result.Keys, n = take(n, len(z.Keys), false)
	result.Doors, n = take(n, len(z.Doors), true)
	if n >= api.ZoneSearching {
		return api.Zone{}, false
	}
	result.State = n + 1
	return result, Valid(result) == api.OK
}

// isUnsafe reports whether beam is not vetoed although somebody could be in the zone.
func isUnsafe(z api.Zone) bool {
	return !Veto(z) && (!allShut(z) || !allInBank(z) || !z.Searched)
}

// Explore returns the numbers of all reached states, ascending.
func Explore(z api.Zone) ([]int, api.Errno) {
	if e := Valid(z); e != api.OK {
		return nil, e
	}
	reached := []int{number(z)}
	seen := map[int]bool{reached[0]: true}
	waiting := []api.Zone{z}
	for len(waiting) > 0 {
		at := waiting[0]
		waiting = waiting[1:]
		for _, event := range events(at, noRule) {
			next := behind(at, event, noRule)
			if n := number(next); !seen[n] {
				seen[n] = true
				reached = append(reached, n)
				waiting = append(waiting, next)
			}
		}
	}
	slices.Sort(reached)
	return reached, api.OK
}

// CheckSet reports whether a set of numbers is closed, contains the state, and satisfies the invariants.
func CheckSet(z api.Zone, l []int) bool {
	if Valid(z) != api.OK {
		return false
	}
	contains := func(z api.Zone) bool {
		_, ok := slices.BinarySearch(l, number(z))
		return ok
	}
	var zones []api.Zone
	for i, n := range l {
		member, ok := withNumber(z, n)
		if !ok || isUnsafe(member) || i > 0 && n <= l[i-1] {
			return false
		}
		zones = append(zones, member)
	}
	if !contains(z) {
		return false
	}
	for _, member := range zones {
		for _, event := range events(member, noRule) {
			if !contains(behind(member, event, noRule)) {
				return false
			}
		}
	}
	return true
}

// Attack returns the shortest list of events to an unsafe zone, if a rule is switched off; ErrNone.
func Attack(z api.Zone, rule int) ([]int, api.Errno) {
	if e := Valid(z); e != api.OK {
		return nil, e
	}
	if !limits.Inside(rule, noRule, mostRule) {
		return nil, api.ErrRange
	}
	// Shorter lists are tried first, and those of one length in their order.
	type way struct {
		zone   api.Zone
		events []int
	}
	seen := map[int]bool{number(z): true}
	waiting := []way{{zone: z}}
	for len(waiting) > 0 {
		at := waiting[0]
		waiting = waiting[1:]
		if isUnsafe(at.zone) {
			return at.events, api.OK
		}
		for _, event := range events(at.zone, rule) {
			next := behind(at.zone, event, rule)
			if n := number(next); !seen[n] {
				seen[n] = true
				waiting = append(waiting, way{next, append(slices.Clone(at.events), event)})
			}
		}
	}
	return nil, api.ErrNone
}
