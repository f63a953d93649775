package console

import (
	"strconv"
	"strings"

	"betatron/accessrule"
	"betatron/api"
	"betatron/archive"
	"betatron/envelope"
	"betatron/optics"
	"betatron/ratio"
	"betatron/sequencer"
	"betatron/settings"
	"betatron/transfer"
	"betatron/verdict"
	"betatron/world"
)

// ask executes a command that changes nothing.
func (s *state) ask(name string, a arguments) (string, api.Errno) {
	switch name {
	case "beta":
		return s.beta(a)
	case "decide":
		return s.decide(a.words)
	case "diff", "get":
		return s.settings(name, a)
	case "ends":
		return s.ends(a.words)
	case "facts":
		return s.facts()
	case "help":
		return spaced(Commands()...), api.OK
	case "last":
		return s.last(a)
	case "map":
		return s.turnMap(a.plane)
	case "mean":
		i, e := archive.Mean(s.archive, a.words[0], a.numbers[0], a.numbers[1])
		return intervalText(i), e
	case "optics":
		return s.optics(a.plane)
	case "run":
		return s.run(a)
	case "safe":
		return s.safe(a)
	case "status":
		l, e := world.Status(s.world)
		return lines(l...), e
	case "tune":
		return s.tune(a)
	}
	return s.why()
}

// lines returns some lines with line feeds between them.
func lines(l ...string) string { return strings.Join(l, "\n") }

func ratioText(r api.Ratio) string {
	text, _ := ratio.Format(r)
	return text
}

func intervalText(i api.Interval) string { return spaced(ratioText(i.Low), ratioText(i.High)) }

func (s *state) beta(a arguments) (string, api.Errno) {
	l, e := envelope.Beta(s.line, a.plane, a.numbers[0])
	var answer []string
	for _, i := range l {
		answer = append(answer, intervalText(i))
	}
	return lines(answer...), e
}

func (s *state) decide(w []string) (string, api.Errno) {
	q := api.Request{Role: w[0], Operation: w[1], Device: w[2], Property: w[3], Mode: w[4], Location: w[5]}
	effect, index, e := accessrule.Decide(s.rules, q)
	name := "deny"
	if effect == api.Allow {
		name = "allow"
	}
	return spaced(name, strconv.Itoa(index)), e
}

// settings answers get and diff.
func (s *state) settings(name string, a arguments) (string, api.Errno) {
	var l []api.Assignment
	var e api.Errno
	if name == "get" {
		l, e = settings.Get(s.book, a.words[0], a.numbers[0])
	} else {
		l, e = settings.Diff(s.book, a.words[0], a.numbers[0], a.numbers[1])
	}
	if e != api.OK {
		return "", e
	}
	if len(l) == 0 {
		return "same", api.OK
	}
	text, e := settings.Format(l)
	return strings.TrimSuffix(text, "\n"), e
}

// resultName returns the name of the result of a run.
func resultName(result int) string {
	switch result {
	case api.RunDone:
		return "done"
	case api.RunAborted:
		return "aborted"
	case api.RunStopped:
		return "stopped"
	}
	return "running"
}

func (s *state) ends(w []string) (string, api.Errno) {
	l, e := sequencer.Ends(s.program, w[0], w[1])
	var answer []string
	for _, end := range l {
		answer = append(answer, spaced(resultName(end.Result), end.Mode))
	}
	return lines(answer...), e
}

func (s *state) run(a arguments) (string, api.Errno) {
	r, e := sequencer.Execute(s.program, a.words[0], a.words[1], a.numbers)
	return lines(append(r.Log, spaced(resultName(r.Result), r.Mode))...), e
}

func (s *state) safe(a arguments) (string, api.Errno) {
	isSafe, e := sequencer.Safe(s.program, a.words[0], a.words[1], a.more)
	if isSafe {
		return "yes", e
	}
	return "no", e
}

func (s *state) facts() (string, api.Errno) {
	l, e := world.Facts(s.world)
	var answer []string
	for _, f := range l {
		answer = append(answer, spaced(f.Subsystem, f.State))
	}
	return lines(answer...), e
}

func (s *state) last(a arguments) (string, api.Errno) {
	r, far, e := archive.At(s.archive, a.words[0], a.numbers[0])
	quality := "bad"
	if r.Good {
		quality = "good"
	}
	return spaced(strconv.Itoa(r.Value), quality, strconv.Itoa(far)), e
}

func (s *state) turnMap(plane int) (string, api.Errno) {
	m, e := transfer.OneTurn(s.line, plane, 0)
	var rows []string
	for i := 0; i+m.Cols <= len(m.Cells) && m.Cols > 0; i += m.Cols {
		var cells []string
		for _, c := range m.Cells[i : i+m.Cols] {
			cells = append(cells, ratioText(c))
		}
		rows = append(rows, spaced(cells...))
	}
	return lines(rows...), e
}

// families returns the names of the magnets of the machine.
func families() []string { return []string{"qf", "qd"} }

func (s *state) optics(plane int) (string, api.Errno) {
	b, strengths, e := world.Optics(s.world)
	if e != api.OK {
		return "", e
	}
	stable, e := optics.Stable(b, plane, families(), strengths)
	if e != api.OK {
		return "", e
	}
	trace, e := optics.Trace(b, plane, families(), strengths)
	names := []string{"stable", "undecided", "unstable"}
	return spaced(names[stable-1], intervalText(trace)), e
}

func (s *state) tune(a arguments) (string, api.Errno) {
	b, strengths, e := world.Optics(s.world)
	if e != api.OK {
		return "", e
	}
	i, e := optics.Tune(b, a.plane, families(), strengths, a.numbers[0])
	return intervalText(i), e
}

func (s *state) why() (string, api.Errno) {
	p, e := world.PostMortem(s.world)
	if e != api.OK {
		return "", e
	}
	l, e := verdict.Report(p)
	return lines(l...), e
}
