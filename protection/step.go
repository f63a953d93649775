package protection

import (
	"slices"

	"betatron/api"
	"betatron/clone"
	"betatron/input"
	"betatron/limits"
	"betatron/mask"
	"betatron/permitloop"
	"betatron/zone"
)

// stepError returns the error of a step ahead of that of its action.
func stepError(c api.Protection, s api.ProtectionState, a api.ProtectionStep) api.Errno {
	if s.Now == mostNow {
		return api.ErrFull
	}
	if len(a.Samples) != len(c.Inputs) {
		return api.ErrRange
	}
	for k, sample := range a.Samples {
		if _, e := input.Sample(c.Inputs[k], sample); e != api.OK {
			return e
		}
	}
	if _, e := mask.Flag(c.Masks, a.Conditions); e != api.OK {
		return e
	}
	if !limits.Inside(a.Kind, 0, mostActions) {
		return api.ErrInvalid
	}
	return api.OK
}

// step returns the state behind a step, or the error of its action.
func step(c api.Protection, s api.ProtectionState, a api.ProtectionStep) (api.ProtectionState, api.Errno) {
	s = clone.Protection(s)
	s.Now++
	s.Conditions = a.Conditions
	for k, i := range c.Inputs {
		raw, _ := input.Sample(i, a.Samples[k])
		s.Filters[k], _ = input.Filter(i, s.Filters[k], raw)
	}
	if e := actAhead(&s, a); e != api.OK {
		return api.ProtectionState{}, e
	}
	for station, isGiven := range locals(c, s) {
		if isGiven == s.Loops.Local[station] {
			continue
		}
		kind := loopLoses
		if isGiven {
			kind = loopGives
		}
		s.Loops, _ = permitloop.Do(s.Loops, api.LoopStep{Kind: kind, Station: station})
	}
	if e := actBehind(&s, a); e != api.OK {
		return api.ProtectionState{}, e
	}
	remove(c, &s, a.Kind == requestsDump)
	return s, api.OK
}

// actAhead does the actions ahead of the local permits.
func actAhead(s *api.ProtectionState, a api.ProtectionStep) api.Errno {
	var e api.Errno
	switch a.Kind {
	case setsMask:
		s.Masks, e = mask.Set(s.Masks, a.Value, s.Now+maskSteps, maskedBy)
	case clearsMask:
		s.Masks, e = mask.Clear(s.Masks, a.Value)
	case entersZone:
		s.Zone, e = zone.Do(s.Zone, a.Value)
	}
	return e
}

// actBehind does the actions behind the local permits.
func actBehind(s *api.ProtectionState, a api.ProtectionStep) api.Errno {
	var e api.Errno
	switch a.Kind {
	case failureOccurs:
		if s.Loops.Failure.Kind != api.FailNone {
			return api.ErrState
		}
		s.Loops, e = permitloop.Do(s.Loops, api.LoopStep{Kind: loopFails, Failure: a.Failure})
	case arms:
		s.Loops, e = permitloop.Do(s.Loops, api.LoopStep{Kind: loopArms})
	case injects:
		if len(reasons(*s)) > 0 {
			return api.ErrDenied
		}
		s.Beam = true
	case repairs:
		s.Loops, e = permitloop.Do(s.Loops, api.LoopStep{Kind: loopRepairs})
	}
	return e
}

// remove lets a removal begin or go on.
func remove(c api.Protection, s *api.ProtectionState, isRequested bool) {
	switch {
	case s.Dump != noRemoval:
		s.Dump--
	case s.Beam && (s.Loops.LatchA || s.Loops.LatchB || isRequested):
		s.Dump = removalTime(c)
	}
	if s.Dump == 0 {
		s.Beam, s.Dump = false, noRemoval
	}
}

// Do returns the state behind a step.
func Do(c api.Protection, s api.ProtectionState, a api.ProtectionStep) (api.ProtectionState, api.Errno) {
	if e := bothErrors(c, s); e != api.OK {
		return api.ProtectionState{}, e
	}
	if e := stepError(c, s, a); e != api.OK {
		return api.ProtectionState{}, e
	}
	return step(c, s, a)
}

// Run returns the states behind steps.
func Run(c api.Protection, l []api.ProtectionStep) ([]api.ProtectionState, api.Errno) {
	if e := Valid(c); e != api.OK {
		return nil, e
	}
	if len(l) > mostSteps {
		return nil, api.ErrTooLarge
	}
	states := []api.ProtectionState{start(c)}
	for i, a := range l {
		if e := stepError(c, states[i], a); e != api.OK {
			return nil, e
		}
		next, e := step(c, states[i], a)
		if e != api.OK {
			// An action that is not possible is left out of its step.
			a.Kind = 0
			next, _ = step(c, states[i], a)
		}
		states = append(states, next)
	}
	return states, api.OK
}

// Monitor returns the breaches of the requirements in a run.
func Monitor(c api.Protection, l []api.ProtectionStep) ([]api.Breach, api.Errno) {
	states, e := Run(c, l)
	if e != api.OK {
		return nil, e
	}
	removal := removalTime(c)
	var breaches []api.Breach
	for i, s := range states {
		noBeam := func(s api.ProtectionState) bool { return !s.Beam }
		if from := i - removal; from >= 0 && !slices.ContainsFunc(states[from:i+1], noBeam) && required(c, states[from]) {
			breaches = append(breaches, api.Breach{Step: i, Kind: beamRemains})
		}
		isInjected := s.Beam && (i == 0 || !states[i-1].Beam)
		s.Dump = noRemoval
		if isInjected && len(reasons(s)) > 0 {
			breaches = append(breaches, api.Breach{Step: i, Kind: wrongInjection})
		}
	}
	return breaches, api.OK
}
