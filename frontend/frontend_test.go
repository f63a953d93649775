package frontend

import (
	"slices"
	"strings"
	"testing"

	"betatron/api"
)

func registry() api.Registry {
	fields := []api.Field{{Name: "current", Type: 1, Low: -100, High: 100, Writable: true}, {Name: "limit", Type: 2, Low: 3, High: 9, Writable: true}, {Name: "on", Type: 3, Writable: true}, {Name: "label", Type: 4, Low: 2, High: 5, Writable: true}, {Name: "list", Type: 5, Low: 2, High: 3}}
	return api.Registry{
		Classes: []api.DeviceClass{{Name: "other"}, {Name: "small", Properties: []api.Property{{Name: "set", Fields: fields[:1]}}}, {Name: "supply", Properties: []api.Property{{Name: "set", Fields: fields}}}},
		Devices: []api.DeviceName{{Name: "m", Class: "other"}, {Name: "p1", Class: "small"}, {Name: "p2", Class: "supply"}},
	}
}

func set(device string, n int) []api.Assignment {
	return []api.Assignment{{Device: device, Property: "set", Field: "current", Value: api.Value{Type: 1, Int: n}}}
}

func make1(t *testing.T, devices ...string) api.FrontEnd {
	t.Helper()
	f, e := New(registry(), devices)
	if e != api.OK || Valid(f) != api.OK {
		t.Fatalf("New: %d %d", e, Valid(f))
	}
	return f
}

func dump(f api.FrontEnd) string {
	s, _ := Dump(f)
	return s
}

func TestExamples(t *testing.T) {
	f := make1(t, "p1")
	if dump(f) != "p1 set current = 0\n" || len(f.Registry.Classes) != 1 {
		t.Errorf("P41.1: Dump: %q", dump(f))
	}
	f, a := Prepare(f, 7, 20, set("p1", 50))
	f, b := Decide(f, 7, true)
	f, c := Crash(f)
	if dump(f) != "p1 set current = 0\n" {
		t.Error("P41.2: a prepared setting has no effect before its event")
	}
	f, d := Restart(f)
	f, took, e := Event(f, api.Event{Number: 20})
	if dump(f) != "p1 set current = 50\n" || a+b+c+d+e != 0 || !slices.Equal(took, []int{7}) || len(f.Prepared) != 0 {
		t.Errorf("P41.1: %q %v", dump(f), took)
	}
	if v, e := Get(f, "p1", "set", "current"); v.Int != 50 || e != api.OK {
		t.Errorf("P41.1: Get: %v %d", v, e)
	}
	all := make1(t, "p2", "p1")
	want := "p1 set current = 0\np2 set current = 0\np2 set limit = 3\np2 set on = false\np2 set label = \"  \"\np2 set list = [0, 0]\n"
	if dump(all) != want {
		t.Errorf("P41.1: first values: %q", dump(all))
	}
}

func TestSettings(t *testing.T) {
	f := make1(t, "p1", "p2")
	f, _ = Prepare(f, 9, 20, set("p1", 1))
	f, _ = Prepare(f, 3, 20, set("p2", 2))
	f, _ = Decide(f, 9, true)
	behind, took, _ := Event(f, api.Event{Number: 20})
	direct, _ := Set(f, set("p1", 1))
	if dump(behind) != dump(direct) || !slices.Equal(took, []int{9}) || len(behind.Prepared) != 0 || len(f.Prepared) != 2 {
		t.Errorf("P41.2: %q %v", dump(behind), took)
	}
	same, took, e := Event(f, api.Event{Number: 21})
	if len(same.Prepared) != 2 || len(took) != 0 || e != api.OK {
		t.Errorf("P41.1: Event: %v %d", took, e)
	}
	dropped, _ := Decide(f, 3, false)
	if len(dropped.Prepared) != 1 || dropped.Prepared[0].Id != 9 {
		t.Errorf("P41.1: Decide: %v", dropped.Prepared)
	}
	for i, c := range []struct {
		id, event int
		l         []api.Assignment
		want      api.Errno
	}{{0, 1, nil, api.ErrRange}, {1, 1000, nil, api.ErrRange}, {3, 1, nil, api.ErrEmpty}, {3, 1, set("p1", 1), api.ErrExists}, {4, 1, set("p1", 1), api.ErrConflict}, {4, 1, set("p1", 101), api.ErrRange}, {4, 1, set("m", 1), api.ErrNotFound}} {
		if _, e := Prepare(f, c.id, c.event, c.l); e != c.want {
			t.Errorf("P41.1: Prepare, row %d: %d", i, e)
		}
	}
	if _, e := Decide(f, 9, false); e != api.ErrState {
		t.Errorf("P41.1: Decide: %d", e)
	}
	if _, e := Decide(f, 4, false); e != api.ErrNotFound {
		t.Errorf("P41.1: Decide: %d", e)
	}
	if _, _, e := Event(f, api.Event{}); e != api.ErrRange {
		t.Errorf("P41.1: Event: %d", e)
	}
	if _, e := Get(f, "p1", "set", "limit"); e != api.ErrNotFound {
		t.Errorf("P41.1: Get: %d", e)
	}
	if _, e := Set(f, nil); e != api.ErrEmpty {
		t.Errorf("P41.1: Set: %d", e)
	}
	if _, e := Restart(f); e != api.ErrState {
		t.Errorf("P41.1: Restart: %d", e)
	}
	down, _ := Crash(f)
	if _, e := Set(down, nil); e != api.ErrState {
		t.Errorf("P41.1: Set: %d", e)
	}
	if _, e := Crash(down); e != api.ErrState {
		t.Errorf("P41.1: Crash: %d", e)
	}
	if _, _, e := Event(down, api.Event{}); e != api.ErrState {
		t.Errorf("P41.1: Event: %d", e)
	}
}

func TestFull(t *testing.T) {
	var r api.Registry
	r.Classes = registry().Classes[1:2]
	var names []string
	for i := range 11 {
		name := "p" + string(rune('a'+i))
		r.Devices = append(r.Devices, api.DeviceName{Name: name, Class: "small"})
		names = append(names, name)
	}
	f, _ := New(r, names)
	for i, name := range names {
		next, e := Prepare(f, i+1, 1, set(name, 1))
		if i == 10 && e != api.ErrFull || i < 10 && e != api.OK {
			t.Errorf("P41.1: Prepare %d: %d", i, e)
		}
		f = next
	}
}

func TestErrors(t *testing.T) {
	for i, c := range []struct {
		devices []string
		want    api.Errno
	}{{nil, api.ErrEmpty}, {[]string{"x"}, api.ErrNotFound}, {[]string{"p1", "p1"}, api.ErrExists}} {
		if _, e := New(registry(), c.devices); e != c.want {
			t.Errorf("P41.1: New, row %d: %d", i, e)
		}
	}
	if _, e := New(api.Registry{Devices: make([]api.DeviceName, 61)}, nil); e != api.ErrTooLarge {
		t.Errorf("P41.1: New: %d", e)
	}
	one := api.Prepared{Id: 5, Event: 7, List: set("p1", 1)}
	for i, c := range []struct {
		change func(f *api.FrontEnd)
		want   api.Errno
	}{
		{func(f *api.FrontEnd) { f.State = 3 }, api.ErrInvalid}, {func(f *api.FrontEnd) { f.Registry.Devices[0].Name = "" }, api.ErrSyntax}, {func(f *api.FrontEnd) { f.Values = f.Values[1:] }, api.ErrInvalid}, {func(f *api.FrontEnd) { f.Values[0].Value.Int = 101 }, api.ErrInvalid},
		{func(f *api.FrontEnd) { f.Values[0].Field = "x" }, api.ErrInvalid}, {func(f *api.FrontEnd) { f.Prepared = make([]api.Prepared, 11) }, api.ErrTooLarge}, {func(f *api.FrontEnd) { f.Prepared[0].Id = 1<<20 + 1 }, api.ErrRange}, {func(f *api.FrontEnd) { f.Prepared[0].Event = 0 }, api.ErrRange},
		{func(f *api.FrontEnd) { f.Prepared[0].Decision = 2 }, api.ErrInvalid}, {func(f *api.FrontEnd) { f.Prepared[0].List = nil }, api.ErrEmpty}, {func(f *api.FrontEnd) { f.Prepared = append(f.Prepared, one) }, api.ErrOrder},
		{func(f *api.FrontEnd) {
			f.Prepared = append(f.Prepared, api.Prepared{Id: 6, Event: 1, List: set("p1", 2)})
		}, api.ErrConflict}, {func(f *api.FrontEnd) {}, 0},
	} {
		f := make1(t, "p1", "p2")
		f.Prepared = []api.Prepared{one}
		f = copied(f)
		c.change(&f)
		if _, e := Dump(f); e != c.want {
			t.Errorf("P41.1: row %d: %d", i, e)
		}
	}
	f := make1(t, "p2")
	v, _ := Get(f, "p2", "set", "list")
	v.List[0] = 9
	if strings.Contains(dump(f), "9") {
		t.Error("rules: shared memory")
	}
}
