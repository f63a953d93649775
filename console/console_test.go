package console

import (
	"slices"
	"strings"
	"testing"
)

// talk executes lines on a console, and compares the answers; a slash stands for a line feed.
func talk(t *testing.T, c *Console, l ...string) {
	t.Helper()
	for i := 0; i < len(l); i += 2 {
		if answer := strings.ReplaceAll(c.Execute(l[i]), "\n", " / "); answer != l[i+1] {
			t.Errorf("P60.1: %s: %q and not %q", l[i], answer, l[i+1])
		}
	}
}

const (
	cell  = "lattice lattice a { quad qf strength 1/2 ; drift d length 1 ; quad qd strength - 1/2 ; line r = qf d qd d ; use r ; }"
	fill  = "program procedure fill { mode setup ; inject 4 ; }"
	rules = `rules allow operator set "q*" current ;`
)

func TestExamples(t *testing.T) {
	talk(t, New(), "zone 1", "now 1 beam 0", "last beam 1", "0 good 0", "undo", "undone", "last beam 1", "error 4", "inject 2", "error 17", "fly", "error 9")
	talk(t, New(), cell, "lattice a 4", "map h", "1/4 5/2 0 / -1/4 3/2 0 / 0 0 1", "beta v 1", "3 31/10 / 3 31/10 / 51/10 26/5 / 51/10 26/5 / 3 31/10",
		fill, "program 1", rules, "rules 1", "decide operator set qf current setup room", "allow 0", "decide operator get qf current setup room", "deny -1")
}

func TestMachine(t *testing.T) {
	c := New()
	talk(t, c, "facts", "converters off / zone open / permit lost / beam out / optics unstable",
		"zone 1", "now 1 beam 0", "zone 50", "now 2 beam 0", "zone 2", "now 3 beam 0", "zone 3", "now 4 beam 0",
		"converter 0 1", "now 5 beam 0", "converter 0 2", "now 6 beam 0", "converter 1 1", "now 7 beam 0", "converter 1 2", "now 8 beam 0",
		"ramp 500 500", "now 9 beam 0", "wait 2", "now 11 beam 0", "mode setup", "now 12 beam 0", "arm", "now 13 beam 0", "inject 2", "now 14 beam 2",
		"optics h", "stable 6976009/4000000 6992001/4000000", "tune h 10", "0 1/10", "tune h 21", "error 6",
		"mean qf 0 14", "error 10", "mean qf 1 14", "1987/13 2013/13", "kick 5", "now 15 beam 2", "mask 2", "now 16 beam 2", "unmask 2", "now 17 beam 2", "why", "error 10",
		"fault 1 0", "now 18 beam 2", "wait 1", "now 19 beam 0", "wait 2", "now 21 beam 0",
		"why", "verdict forbidden / reason kind 1 is not cleared / record 0 1 0 18 / record 1 4 0 18 / record 2 5 0 19 / cause 0",
		"status", "mode setup / now 21 / converter qf on 500 500 / converter qd on 500 500 / kick 5 / zone closed / beam 0 / permit no: latch a, latch b, s0 / dump at 19",
		"last beam 20", "0 good 1", "last x 20", "error 4", "dump", "now 22 beam 0", "crash", "archive 9", "new 1", "now 0 beam 0", "last beam 20", "error 4", "undo", "undone", "last qf 22", "500 good 1", "new 4", "error 6")
}

func TestSettings(t *testing.T) {
	talk(t, New(), "create a q p f int = 100", "version 1", "create a q p f int = 100", "error 5", "create b q p f int = x", "error 2", "create B q p f int = 1", "error 2", "trim a q p f int = 105", "version 2",
		"get a 0", "q p f int = 105", "get a 1", "q p f int = 100", "diff a 1 2", "q p f int = 105", "diff a 1 1", "same", "restore a 1", "version 3", "diff a 1 0", "same", "get a 9", "error 4", "restore a 3", "error 10", "undo", "undone", "get a 3", "error 4", "create t q p f text = \"a  b\"", "version 1", "get t 0", "q p f text = \"a  b\"")
}

func TestProcedures(t *testing.T) {
	talk(t, New(), "ends fill off", "error 7", "program procedure fill { check vacuum good ; mode injection ; inject 2 ; mode stable ; abort { mode safe ; } }", "program 1",
		"ends fill off", "done stable / aborted safe", "run fill off", "running off", "run fill off 1 1 1 1", "check vacuum good / mode injection / inject 2 in injection / mode stable / done stable",
		"run fill off 2 0", "failed check vacuum good / mode safe / aborted safe", "run fill off -1 0", "failed check vacuum good / mode safe / aborted safe", "safe fill off stable safe", "yes", "safe fill off stable", "no", "safe fill off", "no", "run none off", "error 4",
		"run fill off"+strings.Repeat(" 1", 101), "error 3", "run fill off"+strings.Repeat(" 1", 100), "check vacuum good / mode injection / inject 2 in injection / mode stable / done stable", "safe fill off"+strings.Repeat(" x", 21), "error 3", "safe fill off"+strings.Repeat(" x", 20), "no")
}

func TestForms(t *testing.T) {
	c := New()
	talk(t, c, "", "error 9", " arm", "error 9", "arm ", "error 2", "arm 1", "error 2", "arm  1", "error 2", "wait", "error 2", "wait 01", "error 2", "wait -0", "error 2", "wait +1", "error 2", "wait 1 ", "error 2", "wait 12345678901234", "error 2", "wait 1234567890123", "error 6",
		"map x", "error 2", "map h", "error 7", "beta h x", "error 2", "lattice", "error 2", "lattice ", "error 2", "create a", "error 2", "create a ", "error 2", "create  a", "error 2", "decide a get b c d", "error 2", "decide a get b c d e f", "error 2", "run a", "error 2", "run a b c", "error 2", "run a b 1 ", "error 2", "safe a b  c", "error 2",
		"zone\t1", "error 2", "zone\n1", "error 2", "ARM", "error 9", strings.Repeat("x", 4000), "error 9", strings.Repeat("\n", 4001), "error 3", "last a b", "error 2", "undo", "error 7", "undo 1", "error 2", "mode x", "error 4", "mode", "error 2", "converter 0", "error 2", "fault 9 0", "error 1", "help", strings.Join(Commands(), " "))
	if !slices.IsSorted(Commands()) || len(Commands()) != 37 {
		t.Errorf("P60.1: Commands: %d", len(Commands()))
	}
}

func TestUndo(t *testing.T) {
	c, other := New(), New()
	for range 25 {
		c.Execute("wait 1")
	}
	for range 20 {
		talk(t, c, "undo", "undone")
	}
	talk(t, c, "undo", "error 7", "wait 1", "now 6 beam 0")
	// A line with an error and queries are not remembered.
	talk(t, other, "wait 1", "now 1 beam 0", "wait 99", "error 6", "last beam 1", "0 good 0", "undo", "undone", "wait 1", "now 1 beam 0")
	lines := []string{cell, fill, rules, "zone 1", "create a q p f int = 1", "crash", "fault 1 0", "new 2"}
	for i := range lines {
		with, without := New(), New()
		for _, line := range lines[:i] {
			with.Execute(line)
			without.Execute(line)
		}
		with.Execute(lines[i])
		talk(t, with, "undo", "undone")
		for _, line := range []string{"status", "map h", "ends fill off", "decide a set qf current m l", "get a 0", "last beam 1", "facts"} {
			talk(t, with, line, strings.ReplaceAll(without.Execute(line), "\n", " / "))
		}
	}
}

func TestRun(t *testing.T) {
	if answer := Run("zone 1\n\n\nlast beam 1\nfly\nfacts"); answer != "now 1 beam 0\n0 good 0\nerror 9\nconverters off\nzone searching\npermit lost\nbeam out\noptics unstable\n" {
		t.Errorf("P60.2: Run: %q", answer)
	}
	if Run("") != "" || Run("\n\n") != "" {
		t.Error("P60.1: Run of nothing")
	}
	if answer := Run(strings.Repeat("help\n\n", 201)); answer != "error 3\n" {
		t.Errorf("P60.1: Run: %q", answer)
	}
	if answer := Run(strings.Repeat("fly\n", 200)); answer != strings.Repeat("error 9\n", 200) {
		t.Error("P60.1: Run of 200 lines")
	}
}
