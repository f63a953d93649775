package rampplan

import "betatron/api"

// currents is a set of currents; the bit k of the words stands for the current Low + k of the profile.
type currents []uint64

// layer has for each change, from -Slope on, a set of currents.
type layer []currents

const wordBits = 64

func newLayer(p api.Profile) layer {
	l := make(layer, 2*p.Slope+1)
	for i := range l {
		l[i] = newCurrents(p)
	}
	return l
}

func newCurrents(p api.Profile) currents {
	return make(currents, (p.High-p.Low)/wordBits+1)
}

func (c currents) add(p api.Profile, current int) {
	k := current - p.Low
	c[k/wordBits] |= 1 << (k % wordBits)
}

func (c currents) has(p api.Profile, current int) bool {
	k := current - p.Low
	return allows(p, current) && c[k/wordBits]>>(k%wordBits)&1 == 1
}

// join adds all currents of another set.
func (c currents) join(other currents) {
	for i, word := range other {
		c[i] |= word
	}
}

// moved returns the currents that are greater by a number, as far as the profile allows them.
func (c currents) moved(p api.Profile, by int) currents {
	result := newCurrents(p)
	words, bits := by/wordBits, by%wordBits
	if bits < 0 {
		words, bits = words-1, bits+wordBits
	}
	for i, word := range c {
		for _, part := range []struct {
			to   int
			word uint64
		}{{i + words, word << bits}, {i + words + 1, word >> (wordBits - bits)}} {
			if part.to >= 0 && part.to < len(result) {
				result[part.to] |= part.word
			}
		}
	}
	// Bits behind High would come back with a later move.
	if last := (p.High-p.Low)%wordBits + 1; last < wordBits {
		result[len(result)-1] &= 1<<last - 1
	}
	return result
}

// around returns the currents of all changes that may be neighbours of a change.
func (l layer) around(p api.Profile, change int) currents {
	result := newCurrents(p)
	for c := max(-p.Slope, change-p.Acceleration); c <= min(p.Slope, change+p.Acceleration); c++ {
		result.join(l[c+p.Slope])
	}
	return result
}

// leastTicks returns the least number of ticks of a plan, or -1, if there is none with at most 200.
func leastTicks(p api.Profile) int {
	reached := newLayer(p)
	reached[p.Slope].add(p, p.From)
	for n := 0; n <= mostTicks; n++ {
		if reached.around(p, 0).has(p, p.To) {
			return n
		}
		next := newLayer(p)
		for change := -p.Slope; change <= p.Slope; change++ {
			next[change+p.Slope] = reached.around(p, change).moved(p, change)
		}
		reached = next
	}
	return -1
}

// standardPlan returns the standard plan with some ticks; there must be one.
func standardPlan(p api.Profile, ticks int) []int {
	// The layer k has the currents from which, behind a change, a plan can be ended in k ticks.
	end := newLayer(p)
	for change := max(-p.Slope, -p.Acceleration); change <= min(p.Slope, p.Acceleration); change++ {
		end[change+p.Slope].add(p, p.To)
	}
	layers := []layer{end}
	for k := 1; k < ticks; k++ {
		last := layers[k-1]
		arrivals := newLayer(p)
		for change := -p.Slope; change <= p.Slope; change++ {
			arrivals[change+p.Slope] = last[change+p.Slope].moved(p, -change)
		}
		next := newLayer(p)
		for change := -p.Slope; change <= p.Slope; change++ {
			next[change+p.Slope] = arrivals.around(p, change)
		}
		layers = append(layers, next)
	}
	sign := 1
	if p.To < p.From {
		sign = -1
	}
	plan, change := []int{p.From}, 0
	for k := ticks - 1; k >= 0; k-- {
		change = firstChange(p, layers[k], plan[len(plan)-1], change, sign)
		plan = append(plan, plan[len(plan)-1]+change)
	}
	return plan
}

// firstChange returns the greatest change (the least one, if sign is -1) with which the plan can be ended.
func firstChange(p api.Profile, l layer, current, change, sign int) int {
	for next := sign * p.Slope; next != -sign*(p.Slope+1); next -= sign {
		if within(next-change, p.Acceleration) && l[next+p.Slope].has(p, current+next) {
			return next
		}
	}
	return 0
}
