package archive

import (
	"math/rand"
	"slices"
	"strings"
	"testing"

	"betatron/api"
	"betatron/exact"
	"betatron/interval"
	"betatron/sample"
)

func reading(at, value int) api.Measurement {
	return api.Measurement{At: at, Value: value, Good: true}
}

func example(t *testing.T) api.Archive {
	t.Helper()
	a, _ := New(5, 100)
	for _, r := range []api.Measurement{reading(0, 10), reading(20, 14), reading(30, 16), reading(140, 16)} {
		var e api.Errno
		if a, e = Put(a, "x", r); e != api.OK {
			t.Fatalf("Put: %d", e)
		}
	}
	return a
}

func TestExamples(t *testing.T) {
	a := example(t)
	l, e := Range(a, "x", 0, 1000)
	if !slices.Equal(l, []api.Measurement{reading(0, 10), reading(30, 16), reading(140, 16)}) || e != api.OK {
		t.Errorf("P56.1: Range: %v %d", l, e)
	}
	for _, c := range [][3]int{{25, 10, 5}, {131, 16, -1}, {30, 16, 0}, {0, 10, 0}, {129, 16, 5}, {130, 16, -1}} {
		if r, far, e := At(a, "x", c[0]); r.Value != c[1] || far != c[2] || e != api.OK {
			t.Errorf("P56.1: At %d: %v %d %d", c[0], r, far, e)
		}
	}
	if i, e := Mean(a, "x", 0, 40); sample.Text(i.Low, i.High) != "13/2 33/2" || e != api.OK {
		t.Errorf("P56.1: Mean: %s %d", sample.Text(i.Low, i.High), e)
	}
	if i, _ := Mean(a, "x", 29, 31); sample.Text(i.Low, i.High) != "8 18" {
		t.Errorf("P56.1: Mean: %s", sample.Text(i.Low, i.High))
	}
	if l, _ := Range(a, "x", 30, 30); len(l) != 1 {
		t.Errorf("P56.1: Range: %v", l)
	}
	s := record(api.Stored{Name: "ab", Data: reading(258, -1)})
	sum := 1
	for _, c := range []byte(s[:16]) {
		sum = (sum*31 + int(c)) % 65521
	}
	if s != "\x02ab\x00\x00\x00\x00\x01\x02\x00\xff\xff\xff\xff\xff\x01"+string([]byte{byte(sum >> 8), byte(sum)}) {
		t.Errorf("P56.1: a record: %v", []byte(s))
	}
}

func TestConsequences(t *testing.T) {
	r := rand.New(rand.NewSource(40))
	for range 200 {
		a, _ := New(r.Intn(4), r.Intn(10)+1)
		truth := map[string][]api.Measurement{}
		at := 0
		for range r.Intn(20) {
			at += r.Intn(4)
			name := []string{"a", "b"}[r.Intn(2)]
			m := api.Measurement{At: at, Value: r.Intn(10), Good: r.Intn(9) > 0}
			if next, e := Put(a, name, m); e == api.OK {
				a = next
				truth[name] = append(truth[name], m)
			}
			if Valid(a) != api.OK {
				t.Fatalf("P56.1: %v", a)
			}
		}
		for name, l := range truth {
			for time := l[0].At; time <= at+3; time++ {
				stored, _, e := At(a, name, time)
				now := l[inForce(l, time)]
				if e != api.OK || stored.Good && now.Good && max(stored.Value-now.Value, now.Value-stored.Value) > a.Deadband {
					t.Fatalf("P56.2: %v and %v", stored, now)
				}
				i, e := Mean(a, name, l[0].At, time+1)
				if e != api.OK {
					continue
				}
				var w exact.Work
				sum := 0
				for k := l[0].At; k <= time; k++ {
					sum += l[inForce(l, k)].Value
				}
				if !interval.Contains(i, w.Div(exact.Whole(sum), exact.Whole(time+1-l[0].At))) {
					t.Fatal("P56.2: Mean")
				}
			}
		}
		journal, _ := Bytes(a)
		back, n, e := Recover(a.Deadband, a.Silence, journal)
		if !slices.Equal(back.Data, a.Data) || n != len(journal) || e != api.OK || Valid(back) != api.OK {
			t.Fatalf("P56.2: Recover: %v %d %d", back, n, e)
		}
		if cut := r.Intn(len(journal) + 1); cut < len(journal) {
			part, n, _ := Recover(a.Deadband, a.Silence, journal[:cut])
			if !slices.Equal(part.Data, a.Data[:len(part.Data)]) || n > cut || n+40 < cut {
				t.Fatalf("P56.2: Recover of %d bytes", cut)
			}
			damaged := journal[:cut] + string(journal[cut]^4) + journal[cut+1:]
			if bad, _, _ := Recover(a.Deadband, a.Silence, damaged); len(bad.Data) > len(part.Data) {
				t.Fatal("P56.1: Recover of a damaged record")
			}
		}
		from := r.Intn(at + 2)
		less, e := Retain(a, from)
		if e != api.OK || Valid(less) != api.OK || len(less.Data) > len(a.Data) {
			t.Fatalf("P56.1: Retain: %d %d", e, Valid(less))
		}
		for _, name := range []string{"a", "b"} {
			for time := from; time < at+3; time++ {
				x, d, e := At(a, name, time)
				y, f, g := At(less, name, time)
				if x != y || d != f || e != g {
					t.Fatal("P56.2: Retain")
				}
			}
		}
	}
}

func TestErrors(t *testing.T) {
	for _, c := range [][2]int{{-1, 1}, {1<<40 + 1, 1}, {0, 0}, {0, 1<<40 + 1}} {
		if _, e := New(c[0], c[1]); e != api.ErrRange {
			t.Errorf("P56.1: New: %d", e)
		}
		if _, _, e := Recover(c[0], c[1], strings.Repeat("x", 100001)); e != api.ErrRange {
			t.Errorf("P56.1: Recover: %d", e)
		}
	}
	if _, _, e := Recover(0, 1, strings.Repeat("x", 100001)); e != api.ErrTooLarge {
		t.Errorf("P56.1: Recover: %d", e)
	}
	for i, c := range []struct {
		change func(a *api.Archive)
		want   api.Errno
	}{
		{func(a *api.Archive) {}, 0}, {func(a *api.Archive) { a.Silence = 0 }, api.ErrRange}, {func(a *api.Archive) { a.Data = make([]api.Stored, 2001) }, api.ErrTooLarge}, {func(a *api.Archive) { a.Latest = make([]api.Stored, 61) }, api.ErrTooLarge}, {func(a *api.Archive) { a.Data[1].Name = "X" }, api.ErrSyntax},
		{func(a *api.Archive) { a.Latest[0].Data.At = -1 }, api.ErrRange}, {func(a *api.Archive) { a.Data[1].Data.At = 141 }, api.ErrInvalid}, {func(a *api.Archive) { a.Data[1].Data.Value = 15 }, api.ErrInvalid}, {func(a *api.Archive) { a.Data[1].Data.At = 0 }, api.ErrInvalid}, {func(a *api.Archive) { a.Latest = nil }, api.ErrInvalid},
		{func(a *api.Archive) { a.Latest[0].Data = reading(150, 20) }, 0}, {func(a *api.Archive) { a.Latest[0].Data = reading(150, 22) }, api.ErrInvalid}, {func(a *api.Archive) { a.Latest[0].Data = reading(139, 16) }, api.ErrInvalid}, {func(a *api.Archive) { a.Latest = append(a.Latest, a.Latest[0]) }, api.ErrInvalid}, {func(a *api.Archive) { a.Latest[0].Name = "y" }, api.ErrInvalid},
	} {
		a := example(t)
		c.change(&a)
		if _, e := Bytes(a); e != c.want {
			t.Errorf("P56.1: row %d: %d", i, e)
		}
	}
	a := example(t)
	a, _ = Put(a, "y", api.Measurement{At: 150})
	for i, c := range []struct {
		name string
		r    api.Measurement
		want api.Errno
	}{{"X", api.Measurement{At: -1}, api.ErrSyntax}, {"x", api.Measurement{At: -1}, api.ErrRange}, {"x", api.Measurement{At: 149}, api.ErrOrder}, {"y", api.Measurement{At: 150}, api.ErrOrder}, {"x", api.Measurement{At: 150}, 0}, {"x", api.Measurement{At: 150, Value: 1<<40 + 1}, api.ErrRange}} {
		if _, e := Put(a, c.name, c.r); e != c.want {
			t.Errorf("P56.1: Put, row %d: %d", i, e)
		}
	}
	for i, c := range []struct {
		name     string
		from, to int
		want     api.Errno
	}{{"X", 5, 1, api.ErrSyntax}, {"x", 5, 4, api.ErrRange}, {"x", -1, 4, api.ErrRange}, {"z", 5, 5, api.ErrRange}, {"z", 5, 6, api.ErrNotFound}, {"y", 149, 151, api.ErrNone}, {"y", 150, 151, api.ErrState}, {"x", 0, 1 << 40, 0}} {
		if _, e := Mean(a, c.name, c.from, c.to); e != c.want {
			t.Errorf("P56.1: Mean, row %d: %d", i, e)
		}
	}
	if _, _, e := At(a, "y", 149); e != api.ErrNone {
		t.Errorf("P56.1: At: %d", e)
	}
	if _, e := Range(a, "z", 0, 0); e != api.ErrNotFound {
		t.Errorf("P56.1: Range: %d", e)
	}
	if _, e := Retain(a, -1); e != api.ErrRange {
		t.Errorf("P56.1: Retain: %d", e)
	}
	full, _ := New(0, 1<<40)
	for i := range 2000 {
		if _, e := put(&full, "n"+string(rune('a'+i%20)), reading(i, i)); e != api.OK {
			t.Fatalf("put: %d", e)
		}
	}
	if _, e := Put(full, "na", reading(2000, 7)); e != api.ErrFull {
		t.Errorf("P56.1: Put: %d", e)
	}
	if _, e := Put(full, "na", reading(2000, 1980)); e != api.OK {
		t.Errorf("P56.1: Put: %d", e)
	}
	journal, _ := Bytes(full)
	if back, n, e := Recover(0, 1<<40, journal); len(back.Data) != 2000 || n != len(journal) || e != api.OK {
		t.Errorf("P56.1: Recover: %d %d", n, e)
	}
}
