package delivery

import (
	"cmp"
	"slices"

	"betatron/api"
	"betatron/limits"
)

const mostDelay = 1 << 30

// sentError returns the error of the messages that are sent.
func sentError(sent []api.Message) api.Errno {
	if len(sent) > mostMessages {
		return api.ErrTooLarge
	}
	for i, m := range sent {
		if e := messageError(m); e != api.OK {
			return e
		}
		if i > 0 && (m.Number <= sent[i-1].Number || m.At < sent[i-1].At) {
			return api.ErrOrder
		}
	}
	return api.OK
}

// branchError returns the error of a branch for so many messages.
func branchError(b api.Branch, n int) api.Errno {
	if len(b.Delays) != n || b.Broken < -1 {
		return api.ErrRange
	}
	for _, d := range b.Delays {
		if !limits.Inside(d, 0, mostDelay) {
			return api.ErrRange
		}
	}
	for _, i := range b.Lost {
		if !limits.Inside(i, 0, n-1) {
			return api.ErrRange
		}
	}
	for i := 1; i < len(b.Lost); i++ {
		if b.Lost[i] <= b.Lost[i-1] {
			return api.ErrOrder
		}
	}
	return api.OK
}

// arrivals returns what arrives on a branch, in the order of sending.
func arrivals(sent []api.Message, b api.Branch, number int) ([]api.Message, api.Errno) {
	if e := branchError(b, len(sent)); e != api.OK {
		return nil, e
	}
	var l []api.Message
	for i, m := range sent {
		m.At, m.Branch = m.At+b.Delays[i], number
		if !slices.Contains(b.Lost, i) && (b.Broken < 0 || m.At < b.Broken) {
			l = append(l, m)
		}
	}
	for _, m := range l {
		if m.At > api.MaxTime {
			return nil, api.ErrRange
		}
	}
	if !slices.IsSortedFunc(l, func(a, b api.Message) int { return a.At - b.At }) {
		return nil, api.ErrOrder
	}
	return l, api.OK
}

// Transport returns the arrivals of both branches, merged by time, from sent messages, delays and a failure of one branch.
func Transport(sent []api.Message, a, b api.Branch) ([]api.Message, api.Errno) {
	if e := sentError(sent); e != api.OK {
		return nil, e
	}
	first, e := arrivals(sent, a, api.BranchA)
	if e != api.OK {
		return nil, e
	}
	second, e := arrivals(sent, b, api.BranchB)
	if e != api.OK {
		return nil, e
	}
	all := append(first, second...)
	slices.SortFunc(all, func(x, y api.Message) int {
		return cmp.Or(x.At-y.At, x.Branch-y.Branch, x.Number-y.Number)
	})
	return all, api.OK
}

// Latency returns the greatest delay between sending and acting in a run.
func Latency(sent, acted []api.Message) (int, api.Errno) {
	if len(sent) > mostMessages || len(acted) > mostMessages {
		return 0, api.ErrTooLarge
	}
	for _, m := range append(slices.Clone(sent), acted...) {
		if e := messageError(m); e != api.OK {
			return 0, e
		}
	}
	times := map[int]int{}
	for _, m := range sent {
		if _, ok := times[m.Number]; ok {
			return 0, api.ErrExists
		}
		times[m.Number] = m.At
	}
	greatest := -api.MaxTime
	for _, m := range acted {
		at, ok := times[m.Number]
		if !ok {
			return 0, api.ErrNotFound
		}
		greatest = max(greatest, m.At-at)
	}
	if len(acted) == 0 {
		return 0, api.ErrNone
	}
	return greatest, api.OK
}
