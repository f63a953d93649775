package console

import (
	"strconv"
	"strings"

	"betatron/accessrule"
	"betatron/api"
	"betatron/archive"
	"betatron/expand"
	"betatron/lattice"
	"betatron/procedure"
	"betatron/settings"
	"betatron/world"
)

// Kinds of steps of the world.
const (
	stepConverter = iota + 1
	stepTargets
	stepWait
	stepMode
	stepInject
	stepArm
	stepDump
	stepZone
	stepMask
	stepFault
	stepKick
)

// spaced returns words with single spaces between them.
func spaced(words ...string) string { return strings.Join(words, " ") }

// perform executes a command; it can change the state even with an error.
func (s *state) perform(name string, a arguments) (string, api.Errno) {
	if step, ok := worldStep(name, a); ok {
		return s.step(step)
	}
	switch name {
	case "crash":
		return s.crash()
	case "create", "trim":
		return s.set(name, a)
	case "lattice":
		return s.lattice(a.text)
	case "new":
		return s.renew(a.numbers[0])
	case "program":
		p, _, e := procedure.Parse(a.text)
		s.program = p
		return spaced("program", strconv.Itoa(len(p.Procedures))), e
	case "restore":
		b, n, e := settings.Restore(s.book, a.words[0], a.numbers[0])
		s.book = b
		return spaced("version", strconv.Itoa(n)), e
	case "rules":
		r, _, e := accessrule.Parse(a.text)
		s.rules = r
		return spaced("rules", strconv.Itoa(len(r.List))), e
	}
	return s.ask(name, a)
}

// worldStep returns the step of the world that a command makes; false, if it makes none.
func worldStep(name string, a arguments) (api.WorldStep, bool) {
	step := api.WorldStep{}
	switch name {
	case "arm":
		step.Kind = stepArm
	case "converter":
		step.Kind = stepConverter
	case "dump":
		step.Kind = stepDump
	case "fault":
		step.Kind = stepFault
	case "inject":
		step.Kind = stepInject
	case "kick":
		step.Kind = stepKick
	case "mask":
		step.Kind, step.B = stepMask, 1
	case "unmask":
		step.Kind = stepMask
	case "mode":
		step.Kind, step.Text = stepMode, a.words[0]
	case "ramp":
		step.Kind = stepTargets
	case "wait":
		step.Kind = stepWait
	case "zone":
		step.Kind = stepZone
	default:
		return api.WorldStep{}, false
	}
	if len(a.numbers) > 0 {
		step.A = a.numbers[0]
	}
	if len(a.numbers) > 1 {
		step.B = a.numbers[1]
	}
	return step, true
}

// step makes a step of the world, and lets the readings of the machine come to the archive.
func (s *state) step(step api.WorldStep) (string, api.Errno) {
	next, e := world.Do(s.world, step)
	if e != api.OK {
		return "", e
	}
	s.world = next
	beam, e := world.Beam(next)
	if e != api.OK {
		return "", e
	}
	for i, value := range []int{beam, next.Converters[0].Current, next.Converters[1].Current} {
		name := []string{"beam", "qf", "qd"}[i]
		s.archive, e = archive.Put(s.archive, name, api.Measurement{At: next.Now, Value: value, Good: true})
		if e != api.OK {
			return "", e
		}
	}
	return s.machineLine()
}

// machineLine returns the time of the world and the number of particles.
func (s *state) machineLine() (string, api.Errno) {
	beam, e := world.Beam(s.world)
	return spaced("now", strconv.Itoa(s.world.Now), "beam", strconv.Itoa(beam)), e
}

// crash keeps what the journal of the archive keeps.
func (s *state) crash() (string, api.Errno) {
	journal, e := archive.Bytes(s.archive)
	if e != api.OK {
		return "", e
	}
	recovered, _, e := archive.Recover(s.archive.Deadband, s.archive.Silence, journal)
	s.archive = recovered
	return spaced("archive", strconv.Itoa(len(recovered.Data))), e
}

// set creates or trims settings.
func (s *state) set(name string, a arguments) (string, api.Errno) {
	l, _, e := settings.Parse(a.text + "\n")
	if e != api.OK {
		return "", e
	}
	number := 1
	if name == "create" {
		s.book, e = settings.Create(s.book, a.words[0], l)
	} else {
		s.book, number, e = settings.Trim(s.book, a.words[0], l, "")
	}
	return spaced("version", strconv.Itoa(number)), e
}

func (s *state) lattice(text string) (string, api.Errno) {
	l, _, e := lattice.Parse(text)
	if e != api.OK {
		return "", e
	}
	b, e := expand.Expand(l, "")
	s.line = b
	return spaced("lattice", l.Name, strconv.Itoa(len(b.Places))), e
}

// renew begins again with a world of a variant.
func (s *state) renew(variant int) (string, api.Errno) {
	w, e := world.New(variant)
	if e != api.OK {
		return "", e
	}
	s.world, s.archive = w, emptyArchive()
	return s.machineLine()
}
