package device

import (
	"slices"
	"strings"
	"testing"

	"betatron/api"
	"betatron/sample"
)

var current = api.Field{Name: "current", Type: api.FieldInt, Low: -100, High: 100, Writable: true}

func registry(t *testing.T) api.Registry {
	t.Helper()
	class := api.DeviceClass{Name: "supply", Properties: []api.Property{{Name: "set", Fields: []api.Field{current, {Name: "label", Type: api.FieldText, High: 5, Writable: true}, {Name: "state", Type: api.FieldBool}}}}}
	r, e := AddClass(api.Registry{}, class)
	r, f := AddClass(r, api.DeviceClass{Name: "monitor"})
	r, g := AddDevice(r, "p2", "supply")
	r, h := AddDevice(r, "p1", "supply")
	r, k := AddDevice(r, "a", "monitor")
	if e+f+g+h+k != 0 {
		t.Fatalf("registry: %d %d %d %d %d", e, f, g, h, k)
	}
	return r
}

func number(n int) api.Value { return api.Value{Type: api.FieldInt, Int: n} }

func TestRegistry(t *testing.T) {
	r := registry(t)
	if f, e := Lookup(r, "p1", "set", "current"); f != current || e != api.OK {
		t.Errorf("P37.1: Lookup: %v %d", f, e)
	}
	for _, path := range [][3]string{{"p3", "set", "current"}, {"p1", "get", "current"}, {"p1", "set", "x"}, {"a", "set", "current"}} {
		if _, e := Lookup(r, path[0], path[1], path[2]); e != api.ErrNotFound {
			t.Errorf("P37.1: Lookup of %v: %d", path, e)
		}
	}
	if l, e := Instances(r, "supply"); !slices.Equal(l, []string{"p1", "p2"}) || e != api.OK {
		t.Errorf("P37.1: Instances: %v %d", l, e)
	}
	if _, e := Instances(r, "x"); e != api.ErrNotFound {
		t.Errorf("P37.1: Instances: %d", e)
	}
	other, _ := AddDevice(api.Registry{Classes: r.Classes}, "a", "monitor")
	other, _ = AddDevice(other, "p1", "supply")
	other, _ = AddDevice(other, "p2", "supply")
	if !slices.Equal(other.Devices, r.Devices) || r.Classes[0].Name != "monitor" {
		t.Errorf("P37.2: the order of adding: %v", other.Devices)
	}
	for i, c := range []struct {
		name, class string
		want        api.Errno
	}{{"P", "x", api.ErrSyntax}, {"p1", "x", api.ErrExists}, {"b", "x", api.ErrNotFound}} {
		if _, e := AddDevice(r, c.name, c.class); e != c.want {
			t.Errorf("P37.1: AddDevice, row %d: %d", i, e)
		}
	}
	if _, e := AddClass(r, api.DeviceClass{Name: "supply"}); e != api.ErrExists {
		t.Errorf("P37.1: AddClass: %d", e)
	}
	changed, _ := AddDevice(r, "b", "monitor")
	changed.Classes[1].Properties[0].Fields[0].High = 7
	if f, _ := Lookup(r, "p1", "set", "current"); f.High != 100 {
		t.Error("rules: shared memory")
	}
}

func TestErrors(t *testing.T) {
	field := func(kind, low, high int) api.Field { return api.Field{Name: "f", Type: kind, Low: low, High: high} }
	for i, c := range []struct {
		f    api.Field
		want api.Errno
	}{
		{field(1, 0, 0), 0}, {field(0, 0, 0), api.ErrInvalid}, {field(6, 0, 0), api.ErrInvalid}, {field(1, 1, 0), api.ErrRange}, {field(2, -(1<<40)-1, 0), api.ErrRange}, {field(2, -(1 << 40), 1<<40), 0},
		{field(4, -1, 5), api.ErrRange}, {field(4, 0, 201), api.ErrRange}, {field(5, 0, 51), api.ErrRange}, {field(3, 0, 1), api.ErrRange}, {field(3, 0, 0), 0}, {api.Field{Name: "F", Type: 9}, api.ErrSyntax},
	} {
		class := api.DeviceClass{Name: "c", Properties: []api.Property{{Name: "p", Fields: []api.Field{c.f}}}}
		if _, e := AddClass(api.Registry{}, class); e != c.want {
			t.Errorf("P37.1: row %d: %d", i, e)
		}
	}
	good := api.Property{Name: "p", Fields: []api.Field{field(1, 0, 0)}}
	for i, c := range []struct {
		c    api.DeviceClass
		want api.Errno
	}{
		{api.DeviceClass{}, api.ErrSyntax}, {api.DeviceClass{Name: "c", Properties: make([]api.Property, 21)}, api.ErrTooLarge}, {api.DeviceClass{Name: "c", Properties: []api.Property{{}}}, api.ErrSyntax},
		{api.DeviceClass{Name: "c", Properties: []api.Property{good, {Name: "p"}}}, api.ErrExists}, {api.DeviceClass{Name: "c", Properties: []api.Property{{Name: "p"}}}, api.ErrEmpty},
		{api.DeviceClass{Name: "c", Properties: []api.Property{{Name: "p", Fields: make([]api.Field, 11)}}}, api.ErrTooLarge}, {api.DeviceClass{Name: "c", Properties: []api.Property{{Name: "p", Fields: []api.Field{good.Fields[0], good.Fields[0]}}}}, api.ErrExists},
	} {
		if e := Valid(api.Registry{Classes: []api.DeviceClass{c.c}}); e != c.want {
			t.Errorf("P37.1: class, row %d: %d", i, e)
		}
	}
	a, b := api.DeviceClass{Name: "a"}, api.DeviceClass{Name: "b"}
	for i, c := range []struct {
		r    api.Registry
		want api.Errno
	}{
		{api.Registry{Classes: make([]api.DeviceClass, 21)}, api.ErrTooLarge}, {api.Registry{Devices: make([]api.DeviceName, 61)}, api.ErrTooLarge}, {api.Registry{Classes: []api.DeviceClass{b, a}}, api.ErrOrder},
		{api.Registry{Devices: []api.DeviceName{{}}}, api.ErrSyntax}, {api.Registry{Classes: []api.DeviceClass{a}, Devices: []api.DeviceName{{Name: "x", Class: "a"}, {Name: "x", Class: "q"}}}, api.ErrOrder},
		{api.Registry{Classes: []api.DeviceClass{a}, Devices: []api.DeviceName{{Name: "x", Class: "b"}}}, api.ErrNotFound},
	} {
		if e := Valid(c.r); e != c.want {
			t.Errorf("P37.1: registry, row %d: %d", i, e)
		}
	}
}

func TestSettings(t *testing.T) {
	r := registry(t)
	set := func(device, field string, v api.Value) api.Assignment {
		return api.Assignment{Device: device, Property: "set", Field: field, Value: v}
	}
	text := api.Value{Type: api.FieldText, Text: "abc"}
	for i, c := range []struct {
		l    []api.Assignment
		at   int
		want api.Errno
	}{
		{nil, 0, api.ErrEmpty}, {make([]api.Assignment, 51), 0, api.ErrTooLarge}, {[]api.Assignment{set("p1", "current", number(100)), set("p2", "label", text)}, 0, 0},
		{[]api.Assignment{set("p1", "current", number(1)), set("p9", "current", number(1))}, 1, api.ErrNotFound}, {[]api.Assignment{set("p1", "state", api.Value{Type: 3})}, 0, api.ErrDenied},
		{[]api.Assignment{set("p1", "current", number(101))}, 0, api.ErrRange}, {[]api.Assignment{set("p1", "current", text)}, 0, api.ErrInvalid}, {[]api.Assignment{set("p1", "label", api.Value{Type: 4, Text: "abcdef"})}, 0, api.ErrRange},
		{[]api.Assignment{set("p1", "current", number(1)), set("p2", "current", number(1)), set("p1", "current", number(2))}, 2, api.ErrExists},
	} {
		if at, e := CheckSetting(r, c.l); at != c.at || e != c.want {
			t.Errorf("P37.1: CheckSetting, row %d: %d %d", i, at, e)
		}
	}
	half := api.Field{Name: "f", Type: api.FieldRatio, Low: 0, High: 1}
	for s, want := range map[string]api.Errno{"1/2": 0, "1": 0, "4/3": api.ErrRange, "-1/9": api.ErrRange} {
		if e := Fits(half, api.Value{Type: api.FieldRatio, Ratio: sample.Ratio(s)}); e != want {
			t.Errorf("P37.1: Fits %s: %d", s, e)
		}
	}
	if e := Fits(api.Field{Name: "f", Type: api.FieldList, Low: 1, High: 2}, api.Value{Type: api.FieldList}); e != api.ErrRange {
		t.Errorf("P37.1: Fits: %d", e)
	}
}

func TestValues(t *testing.T) {
	long := strings.Repeat("9", 500)
	for _, c := range []struct {
		kind int
		s    string
		want api.Errno
	}{
		{1, "0", 0}, {1, "-1099511627776", 0}, {1, "1099511627777", api.ErrRange}, {1, "-0", api.ErrSyntax}, {1, "01", api.ErrSyntax}, {1, long, api.ErrRange}, {1, "", api.ErrSyntax}, {1, "+1", api.ErrSyntax},
		{2, "-1/2", 0}, {2, "-2/4", api.ErrSyntax}, {2, "1.5", api.ErrSyntax}, {2, long, api.ErrTooLarge}, {3, "true", 0}, {3, "false", 0}, {3, "1", api.ErrSyntax}, {4, `"a b"`, 0}, {4, `""`, 0}, {4, `"`, api.ErrSyntax},
		{4, `"a"b"`, api.ErrSyntax}, {4, "\"\t\"", api.ErrSyntax}, {4, `"` + long + `"`, api.ErrTooLarge}, {4, `"` + long + "\n\"", api.ErrSyntax}, {5, "[3, -1]", 0}, {5, "[]", 0}, {5, "[3,-1]", api.ErrSyntax}, {5, "[3, ]", api.ErrSyntax},
		{5, "[1099511627777]", api.ErrRange}, {5, "[" + strings.Repeat("1, ", 50) + "1]", api.ErrTooLarge}, {5, "[" + strings.Repeat("1, ", 49) + "1]", 0}, {0, "1", api.ErrInvalid}, {6, "1", api.ErrInvalid}, {5, "3", api.ErrSyntax},
	} {
		v, e := ParseValue(c.kind, c.s)
		if e != c.want {
			t.Errorf("P37.1: ParseValue of %d %.9s: %d", c.kind, c.s, e)
		}
		if s, f := FormatValue(v); e == api.OK && (s != c.s || f != api.OK) {
			t.Errorf("P37.2: FormatValue of %s: %s %d", c.s, s, f)
		}
	}
	for i, c := range []struct {
		v    api.Value
		want api.Errno
	}{
		{api.Value{}, api.ErrInvalid}, {api.Value{Type: 1, Text: "x"}, api.ErrInvalid}, {api.Value{Type: 1, Ratio: sample.Ratio("0")}, api.ErrInvalid}, {api.Value{Type: 2}, api.ErrInvalid}, {api.Value{Type: 3, Int: 2}, api.ErrInvalid},
		{api.Value{Type: 4, Int: 1}, api.ErrInvalid}, {api.Value{Type: 4, Text: strings.Repeat("\n", 201)}, api.ErrTooLarge}, {api.Value{Type: 4, Text: "\n"}, api.ErrSyntax}, {api.Value{Type: 5, List: make([]int, 51)}, api.ErrTooLarge},
		{api.Value{Type: 1, Int: 1<<40 + 1}, api.ErrRange}, {api.Value{Type: 5, List: []int{1 << 41}}, api.ErrRange},
	} {
		if _, e := FormatValue(c.v); e != c.want {
			t.Errorf("P37.1: FormatValue, row %d: %d", i, e)
		}
	}
}
