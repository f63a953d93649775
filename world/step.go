package world

import (
	"slices"

	"betatron/api"
	"betatron/clone"
	"betatron/converter"
	"betatron/hysteresis"
	"betatron/limits"
	"betatron/mode"
	"betatron/permitloop"
	"betatron/protection"
	"betatron/ringbuffer"
	"betatron/tracking"
)

const (
	lastBegin = 899990
	mostTicks = 10
	mostSteps = 10
	firstX    = 100000
	firstY    = -50000
)

// Kinds of steps.
const (
	commandsConverter = iota + 1
	setsTargets
	ticks
	changesMode
	injects
	arms
	requestsDump
	entersZone
	masks
	makesFault
	kicks
)

// Actions of the protection.
const (
	noAction = iota
	actionMask
	actionUnmask
	actionZone
	actionFailure
	actionArm
	actionInject
	actionDump
	actionRepair
)

// Faults.
const (
	leaks = iota + 1
	stopsLeak
	breaksLoop
	repairsLoop
)

// action is what a tick does beside the passing of time.
type action struct {
	kind, value int
	failure     api.Failure
	behind      func(w *api.World) // is done behind the step of the protection
}

// own returns a world with memory of its own.
func own(w api.World) api.World {
	w.Converters, w.Bunch = slices.Clone(w.Converters), slices.Clone(w.Bunch)
	w.Magnets, w.Buffers = clone.List(w.Magnets, clone.Magnet), clone.List(w.Buffers, clone.Buffer)
	w.Protection = clone.Protection(w.Protection)
	return w
}

// tick returns the world a tick later, or the error of the action.
func tick(w api.World, a action) (api.World, api.Errno) {
	w = own(w)
	hadBeam := w.Protection.Beam
	w.Now++
	for i := range w.Converters {
		w.Converters[i], _ = converter.Tick(w.Converters[i], 1)
		w.Magnets[i], _ = hysteresis.Apply(w.Magnets[i], w.Converters[i].Current)
	}
	turn(&w)
	var e api.Errno
	w.Protection, e = protection.Do(configuration(w.Variant), w.Protection, protectionStep(w, a))
	if e != api.OK {
		return api.World{}, e
	}
	if a.behind != nil {
		a.behind(&w)
	}
	if !w.Protection.Beam {
		w.Bunch = nil
	}
	record(&w)
	if hadBeam && !w.Protection.Beam {
		w.Dumped, w.DumpAt = true, w.Now
		for i := range w.Buffers {
			w.Buffers[i], _ = ringbuffer.Freeze(w.Buffers[i], w.Now)
		}
	}
	return w, api.OK
}

// turn lets the particles make a turn.
func turn(w *api.World) {
	w.Lost = 0
	if !w.Protection.Beam {
		return
	}
	b, _ := optics(*w)
	angles := make([]int, placeCount)
	angles[corrector] = w.Kick
	next, _ := tracking.Bunch(b, w.Bunch, angles, 1)
	for i, q := range next {
		if q.Lost >= 0 && w.Bunch[i].Lost < 0 {
			w.Lost++
		}
	}
	w.Bunch = next
}

// protectionStep returns the step of the protection in a tick.
func protectionStep(w api.World, a action) api.ProtectionStep {
	var samples []api.Sample
	for _, isWell := range []bool{!w.Leak, areOn(w), w.Lost <= 1} {
		samples = append(samples, api.Sample{A: isWell, B: isWell, Valid: true})
	}
	isSetup := w.Mode == "setup"
	return api.ProtectionStep{
		Samples:    samples,
		Conditions: api.Conditions{Intensity: particles(w), Energy: w.Converters[0].Current, FlagA: isSetup, FlagB: isSetup},
		Kind:       a.kind, Value: a.value, Failure: a.failure,
	}
}

// record puts a sample into each buffer that is not frozen.
func record(w *api.World) {
	values := make([]int, bufferCount)
	if w.Leak {
		values[vacuumBuffer] = 1
	}
	if !areOn(*w) {
		values[magnetsBuffer] = 1
	}
	if w.Protection.Loops.LatchA || w.Protection.Loops.LatchB {
		values[latchesBuffer] = 1
	}
	values[lossesBuffer], values[intensityBuffer] = w.Lost, particles(*w)
	for i, b := range w.Buffers {
		if !b.Frozen {
			w.Buffers[i], _ = ringbuffer.Put(b, api.Measurement{At: w.Now, Value: values[i], Good: true})
		}
	}
}

// bunch returns so many particles as they are injected.
func bunch(n int) []api.Particle {
	var l []api.Particle
	for i := range n {
		l = append(l, api.Particle{X: firstX * (i + 1), Y: firstY * (i + 1), Lost: -1})
	}
	return l
}

// changed returns the world behind a change, and then a tick.
func changed(w api.World, change func(w *api.World)) (api.World, api.Errno) {
	w = own(w)
	change(&w)
	return tick(w, action{})
}

// Do returns the world behind a step.
func Do(w api.World, s api.WorldStep) (api.World, api.Errno) {
	if e := Valid(w); e != api.OK {
		return api.World{}, e
	}
	if !limits.Inside(s.Kind, commandsConverter, kicks) {
		return api.World{}, api.ErrInvalid
	}
	if w.Now > lastBegin {
		return api.World{}, api.ErrFull
	}
	switch s.Kind {
	case commandsConverter:
		return command(w, s.A, s.B)
	case setsTargets:
		return target(w, s.A, s.B)
	case ticks:
		return wait(w, s.A)
	case changesMode:
		return change(w, s.Text)
	case injects:
		return inject(w, s.A)
	case arms:
		return arm(w)
	case requestsDump:
		return tick(w, action{kind: actionDump})
	case entersZone:
		return tick(w, action{kind: actionZone, value: s.A})
	case masks:
		return setMask(w, s.A, s.B)
	case makesFault:
		return fault(w, s.A, s.B)
	}
	if !limits.Inside(s.A, -mostKick, mostKick) {
		return api.World{}, api.ErrRange
	}
	return changed(w, func(w *api.World) { w.Kick = s.A })
}

func command(w api.World, at, kind int) (api.World, api.Errno) {
	if !limits.Inside(at, 0, len(w.Converters)-1) {
		return api.World{}, api.ErrRange
	}
	if kind == api.CommandSet {
		return api.World{}, api.ErrInvalid
	}
	c, e := converter.Command(w.Converters[at], kind, 0)
	if e != api.OK {
		return api.World{}, e
	}
	return changed(w, func(w *api.World) { w.Converters[at] = c })
}

// target sets both targets, or none.
func target(w api.World, first, second int) (api.World, api.Errno) {
	var converters []api.Converter
	for i, value := range []int{first, second} {
		c, e := converter.Command(w.Converters[i], api.CommandSet, value)
		if e != api.OK {
			return api.World{}, e
		}
		converters = append(converters, c)
	}
	return changed(w, func(w *api.World) { w.Converters = converters })
}

func wait(w api.World, n int) (api.World, api.Errno) {
	if !limits.Inside(n, 1, mostTicks) {
		return api.World{}, api.ErrRange
	}
	var e api.Errno
	for range n {
		if w, e = tick(w, action{}); e != api.OK {
			return api.World{}, e
		}
	}
	return w, api.OK
}

func change(w api.World, name string) (api.World, api.Errno) {
	table := modes()
	find := func(name string) int {
		return slices.IndexFunc(table.Modes, func(m api.Mode) bool { return m.Name == name })
	}
	if find(name) < 0 {
		return api.World{}, api.ErrNotFound
	}
	if !slices.Contains(table.Modes[find(w.Mode)].Next, name) {
		return api.World{}, api.ErrState
	}
	violations, e := mode.Violations(table, name, facts(w))
	if e != api.OK {
		return api.World{}, e
	}
	if len(violations) > 0 {
		return api.World{}, api.ErrConflict
	}
	return changed(w, func(w *api.World) { w.Mode = name })
}

func inject(w api.World, n int) (api.World, api.Errno) {
	if !limits.Inside(n, 1, mostParticles) {
		return api.World{}, api.ErrRange
	}
	if w.Protection.Beam {
		return api.World{}, api.ErrState
	}
	mayInject, e := mode.Injectable(modes(), w.Mode, facts(w))
	if e != api.OK {
		return api.World{}, e
	}
	if !mayInject {
		return api.World{}, api.ErrDenied
	}
	return tick(w, action{kind: actionInject, behind: func(w *api.World) { w.Bunch = bunch(n) }})
}

func arm(w api.World) (api.World, api.Errno) {
	if slices.ContainsFunc(w.Buffers, func(b api.Buffer) bool { return b.Remaining > 0 }) {
		return api.World{}, api.ErrState
	}
	return tick(w, action{kind: actionArm, behind: func(w *api.World) {
		w.Buffers, w.Dumped, w.DumpAt = newBuffers(), false, 0
	}})
}

func setMask(w api.World, input, isSet int) (api.World, api.Errno) {
	switch isSet {
	case 1:
		return tick(w, action{kind: actionMask, value: input})
	case 0:
		return tick(w, action{kind: actionUnmask, value: input})
	}
	return api.World{}, api.ErrInvalid
}

func fault(w api.World, kind, index int) (api.World, api.Errno) {
	switch kind {
	case leaks, stopsLeak:
		return changed(w, func(w *api.World) { w.Leak = kind == leaks })
	case breaksLoop:
		l, _ := permitloop.Failures(w.Protection.Loops.Network)
		if !limits.Inside(index, 0, len(l)-1) {
			return api.World{}, api.ErrRange
		}
		return tick(w, action{kind: actionFailure, failure: l[index]})
	case repairsLoop:
		return tick(w, action{kind: actionRepair})
	}
	return api.World{}, api.ErrInvalid
}

// Run returns the world behind a script, and the index of the first step that failed or -1.
func Run(w api.World, l []api.WorldStep) (api.World, int, api.Errno) {
	if e := Valid(w); e != api.OK {
		return api.World{}, 0, e
	}
	if len(l) > mostSteps {
		return api.World{}, 0, api.ErrTooLarge
	}
	for i, s := range l {
		next, e := Do(w, s)
		if e != api.OK {
			return own(w), i, api.OK
		}
		w = next
	}
	return own(w), -1, api.OK
}
