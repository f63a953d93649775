package transaction

import (
	"slices"

	"betatron/api"
)

const (
	phases      = 5
	inboxPlace  = 8
	outboxPlace = 32
	digits      = 160
)

// Number returns the number of a state.
func Number(t api.Transaction) (int, api.Errno) {
	if e := Valid(t); e != api.OK {
		return 0, e
	}
	return number(t), api.OK
}

func number(t api.Transaction) int {
	n := 0
	for i := len(t.Parties) - 1; i >= 0; i-- {
		p := t.Parties[i]
		n = n*digits + p.State + inboxPlace*p.Inbox + outboxPlace*p.Outbox
	}
	return n*phases + t.Phase
}

// State returns the state with a number.
func State(n, number int) (api.Transaction, api.Errno) {
	if n < 1 || n > mostParties || number < 0 {
		return api.Transaction{}, api.ErrRange
	}
	phase := number % phases
	t := api.Transaction{Phase: phase, Event: phase == sent}
	rest := number / phases
	for range n {
		digit := rest % digits
		rest /= digits
		t.Parties = append(t.Parties, api.Party{State: digit % inboxPlace, Inbox: digit / inboxPlace % 4, Outbox: digit / outboxPlace})
	}
	if rest > 0 {
		return api.Transaction{}, api.ErrRange
	}
	return t, api.OK
}

// Explore returns all reached states as numbers, ascending (the inductive set).
func Explore(n int) ([]int, api.Errno) {
	if n < 1 || n > mostExplore {
		return nil, api.ErrRange
	}
	start, _ := Start(n)
	seen := map[int]bool{number(start): true}
	waiting := []api.Transaction{start}
	var reached []int
	for len(waiting) > 0 {
		t := waiting[len(waiting)-1]
		waiting = waiting[:len(waiting)-1]
		reached = append(reached, number(t))
		for _, step := range Steps(t) {
			next := behind(t, step)
			if k := number(next); !seen[k] {
				seen[k] = true
				waiting = append(waiting, next)
			}
		}
	}
	slices.Sort(reached)
	return reached, api.OK
}

// CheckSet reports whether a set of states contains the start, is closed under steps, and has no bad state.
func CheckSet(n int, l []int) bool {
	if n < 1 || n > mostExplore {
		return false
	}
	for i, k := range l {
		t, e := State(n, k)
		if e != api.OK || Bad(t) || i > 0 && k <= l[i-1] {
			return false
		}
	}
	contains := func(t api.Transaction) bool {
		_, ok := slices.BinarySearch(l, number(t))
		return ok
	}
	start, _ := Start(n)
	if !contains(start) {
		return false
	}
	for _, k := range l {
		t, _ := State(n, k)
		for _, step := range Steps(t) {
			if !contains(behind(t, step)) {
				return false
			}
		}
	}
	return true
}
