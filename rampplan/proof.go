package rampplan

import "betatron/api"

// span is a range of currents; it is empty if low is greater than high.
type span struct{ low, high int }

// clipped returns the currents of the profile's range that a range contains, moved by a change.
func clipped(p api.Profile, low, high, change int) span {
	// Ranges can be given that reach far beyond all currents.
	low, high = max(low, -2*mostCurrent-mostChange), min(high, 2*mostCurrent+mostChange)
	return span{max(low+change, p.Low), min(high+change, p.High)}
}

func (s span) isEmpty() bool { return s.low > s.high }

// neighbours returns the least and the greatest change that may follow a change.
func neighbours(p api.Profile, change int) (int, int) {
	return max(-p.Slope, change-p.Acceleration), min(p.Slope, change+p.Acceleration)
}

// standardTable returns the standard table for so many ticks.
func standardTable(p api.Profile, ticks int) []api.Reachable {
	table := []api.Reachable{{Low: p.From, High: p.From}}
	last := table
	for tick := 1; tick < ticks; tick++ {
		asked := make([]span, 2*p.Slope+1)
		for i := range asked {
			asked[i] = span{1, 0}
		}
		for _, entry := range last {
			from, to := neighbours(p, entry.Change)
			for change := from; change <= to; change++ {
				s, all := clipped(p, entry.Low, entry.High, change), &asked[change+p.Slope]
				switch {
				case s.isEmpty():
				case all.isEmpty():
					*all = s
				default:
					*all = span{min(all.low, s.low), max(all.high, s.high)}
				}
			}
		}
		last = nil
		for i, s := range asked {
			if !s.isEmpty() {
				last = append(last, api.Reachable{Tick: tick, Change: i - p.Slope, Low: s.low, High: s.high})
			}
		}
		table = append(table, last...)
	}
	return table
}

// arrives reports whether an entry says that the plan could be ended in fewer than so many ticks.
func arrives(p api.Profile, ticks int, r api.Reachable) bool {
	return r.Tick < ticks && within(r.Change, p.Acceleration) && r.Low <= p.To && p.To <= r.High
}

// Prove returns the table that proves that there is no plan with fewer ticks.
func Prove(p api.Profile, ticks int) ([]api.Reachable, api.Errno) {
	if e := profileError(p); e != api.OK {
		return nil, e
	}
	if ticks < 1 || ticks > mostTicks {
		return nil, api.ErrRange
	}
	table := standardTable(p, ticks)
	for _, r := range table {
		if arrives(p, ticks, r) {
			return nil, api.ErrConflict
		}
	}
	return table, api.OK
}

// isTable reports whether a list is a table for a profile.
func isTable(p api.Profile, l []api.Reachable) bool {
	for i, r := range l {
		if r.Tick < 0 || r.Tick > mostTicks || !within(r.Change, p.Slope) || r.Low > r.High {
			return false
		}
		if i > 0 && (r.Tick < l[i-1].Tick || r.Tick == l[i-1].Tick && r.Change <= l[i-1].Change) {
			return false
		}
	}
	return true
}

// CheckProof reports whether a table proves it.
func CheckProof(p api.Profile, ticks int, l []api.Reachable) bool {
	if profileError(p) != api.OK || ticks < 1 || ticks > mostTicks || !isTable(p, l) {
		return false
	}
	type place struct{ tick, change int }
	ranges := map[place]span{}
	for _, r := range l {
		ranges[place{r.Tick, r.Change}] = span{r.Low, r.High}
	}
	if start, ok := ranges[place{0, 0}]; !ok || start.low > p.From || start.high < p.From {
		return false
	}
	for _, r := range l {
		if arrives(p, ticks, r) {
			return false
		}
		if r.Tick >= ticks-1 {
			continue
		}
		from, to := neighbours(p, r.Change)
		for change := from; change <= to; change++ {
			s := clipped(p, r.Low, r.High, change)
			if s.isEmpty() {
				continue
			}
			if all, ok := ranges[place{r.Tick + 1, change}]; !ok || s.low < all.low || s.high > all.high {
				return false
			}
		}
	}
	return true
}
