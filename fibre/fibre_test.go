package fibre

import (
	"math/rand"
	"slices"
	"testing"

	"betatron/api"
)

var example = api.Tree{Nodes: []api.Node{{Parent: -1}, {Parent: 0, Down: 100, Up: 110, Jitter: 5}, {Parent: 1, Down: 30, Up: 30, Jitter: 1}, {Parent: 1, Down: 50, Up: 40, Jitter: 2}}}

func TestExamples(t *testing.T) {
	if l, e := Leaves(example); !slices.Equal(l, []int{2, 3}) || e != api.OK {
		t.Errorf("P30.1: Leaves: %v %d", l, e)
	}
	if l, e := Delays(example); !slices.Equal(l, []api.Span{{}, {Low: 95, High: 105}, {Low: 124, High: 136}, {Low: 143, High: 157}}) || e != api.OK {
		t.Errorf("P30.1: Delays: %v %d", l, e)
	}
	if l, n, e := Compensate(example, 20); !slices.Equal(l, []int{20, 0}) || n != 3 || e != api.OK {
		t.Errorf("P30.1: Compensate: %v %d %d", l, n, e)
	}
	if l, e := Measure(example, []int{0, 210, 270, 300}, 10); l[0] != (api.Span{}) || l[2] != (api.Span{Low: 124, High: 146}) || e != api.OK {
		t.Errorf("P30.1: Measure: %v %d", l, e)
	}
	if l, e := Acts(example, []int{20, 0}, 1000, []int{0, 5, -1, 2}); !slices.Equal(l, []int{1154, 1157}) || e != api.OK {
		t.Errorf("P30.1: Acts: %v %d", l, e)
	}
	if l, e := Cut(example, 1); !slices.Equal(l, []int{1, 2, 3}) || e != api.OK {
		t.Errorf("P30.1: Cut: %v %d", l, e)
	}
	if n, e := Common(example, 2, 3); n != 1 || e != api.OK {
		t.Errorf("P30.1: Common: %d %d", n, e)
	}
	root := api.Tree{Nodes: example.Nodes[:1]}
	if l, n, e := Compensate(root, 0); !slices.Equal(l, []int{0}) || n != 0 || e != api.OK {
		t.Errorf("P30.1: Compensate: %v %d %d", l, n, e)
	}
}

func TestConsequences(t *testing.T) {
	r := rand.New(rand.NewSource(17))
	for range 200 {
		tree := api.Tree{Nodes: []api.Node{{Parent: -1}}}
		trips, jitter, extreme := []int{0}, []int{0}, []int{0}
		for i := 1; i < r.Intn(8)+2; i++ {
			n := api.Node{Parent: r.Intn(i), Down: 5 + r.Intn(20), Up: 5 + r.Intn(20), Jitter: r.Intn(5)}
			tree.Nodes = append(tree.Nodes, n)
			jitter = append(jitter, r.Intn(2*n.Jitter+1)-n.Jitter)
			extreme = append(extreme, n.Jitter)
			trip := 0
			for _, k := range path(tree, i) {
				trip += tree.Nodes[k].Down + tree.Nodes[k].Up
			}
			_, noise := delay(tree, i)
			trips = append(trips, max(0, trip+r.Intn(4*noise+1)-2*noise))
		}
		added, remaining, e := Compensate(tree, 100000)
		times, f := Acts(tree, added, 50, jitter)
		if e != api.OK || f != api.OK || slices.Max(times)-slices.Min(times) > remaining {
			t.Fatalf("P30.2: %v differ by more than %d", times, remaining)
		}
		still, _ := Acts(tree, added, 50, make([]int, len(jitter)))
		if slices.Max(still) != slices.Min(still) {
			t.Fatal("P30.2: without jitter")
		}
		attained := 0
		ends, _ := Leaves(tree)
		for _, leaf := range ends {
			signs := make([]int, len(extreme))
			for i := range signs {
				signs[i] = -extreme[i]
			}
			for _, k := range path(tree, leaf) {
				signs[k] = extreme[k]
			}
			times, _ := Acts(tree, added, 0, signs)
			attained = max(attained, slices.Max(times)-slices.Min(times))
		}
		if attained != remaining {
			t.Fatalf("P30.2: %d and %d", attained, remaining)
		}
		spans, e := Measure(tree, trips, 15*len(trips))
		for i := range spans {
			if down, _ := delay(tree, i); e != api.OK || down < spans[i].Low || down > spans[i].High {
				t.Fatalf("P30.2: Measure: %v %d", spans[i], e)
			}
		}
		a, b := r.Intn(len(trips)), r.Intn(len(trips))
		c, _ := Common(tree, a, b)
		above := func(n int) []int { return append(path(tree, n), 0) }
		for _, n := range above(a) {
			if slices.Contains(above(b), n) {
				if n != c {
					t.Fatalf("P30.2: Common of %d and %d", a, b)
				}
				break
			}
		}
	}
}

func TestErrors(t *testing.T) {
	for i, c := range []struct {
		change func(t *api.Tree)
		want   api.Errno
	}{
		{func(t *api.Tree) { t.Nodes = nil }, api.ErrEmpty}, {func(t *api.Tree) { t.Nodes = make([]api.Node, 61) }, api.ErrTooLarge}, {func(t *api.Tree) { t.Nodes[0].Parent = 0 }, api.ErrOrder},
		{func(t *api.Tree) { t.Nodes[0].Down = 1 }, api.ErrRange}, {func(t *api.Tree) { t.Nodes[1].Parent = 1 }, api.ErrOrder}, {func(t *api.Tree) { t.Nodes[1].Parent = -1 }, api.ErrOrder},
		{func(t *api.Tree) { t.Nodes[1].Jitter = 101 }, api.ErrRange}, {func(t *api.Tree) { t.Nodes[2].Up = 1000001 }, api.ErrRange}, {func(t *api.Tree) { t.Nodes[2].Jitter = -1 }, api.ErrRange},
	} {
		bad := api.Tree{Nodes: slices.Clone(example.Nodes)}
		c.change(&bad)
		if _, e := Leaves(bad); e != c.want {
			t.Errorf("P30.1: row %d: %d", i, e)
		}
	}
	for i, c := range []struct {
		trips     []int
		asymmetry int
		want      api.Errno
	}{{[]int{0, 1, 2}, 0, api.ErrRange}, {[]int{1, 1, 2, 3}, 0, api.ErrRange}, {[]int{0, -1, 2, 3}, 0, api.ErrRange}, {[]int{0, 1, 2, 3}, -1, api.ErrRange}, {[]int{0, 1, 2, 1000000001}, 0, api.ErrRange}, {[]int{0, 1, 2, 3}, 0, 0}} {
		if _, e := Measure(example, c.trips, c.asymmetry); e != c.want {
			t.Errorf("P30.1: Measure, row %d: %d", i, e)
		}
	}
	quiet := api.Tree{Nodes: []api.Node{{Parent: -1}, {Parent: 0, Down: 5, Up: 6}}}
	if _, e := Measure(quiet, []int{0, 11}, 0); e != api.ErrConflict {
		t.Errorf("P30.1: Measure: %d", e)
	}
	for _, limit := range []int{-1, 19, 1000000001} {
		if _, _, e := Compensate(example, limit); e != api.ErrRange {
			t.Errorf("P30.1: Compensate: %d", e)
		}
	}
	for i, c := range []struct {
		added  []int
		at     int
		jitter []int
	}{{[]int{1}, 0, make([]int, 4)}, {[]int{1, -1}, 0, make([]int, 4)}, {[]int{1, 1}, -1, make([]int, 4)}, {[]int{1, 1}, 0, make([]int, 3)}, {[]int{1, 1}, 0, []int{1, 0, 0, 0}}, {[]int{1, 1}, 0, []int{0, 6, 0, 0}}} {
		if _, e := Acts(example, c.added, c.at, c.jitter); e != api.ErrRange {
			t.Errorf("P30.1: Acts, row %d: %d", i, e)
		}
	}
	if _, e := Cut(example, 0); e != api.ErrRange {
		t.Errorf("P30.1: Cut: %d", e)
	}
	if _, e := Common(example, 0, 4); e != api.ErrRange {
		t.Errorf("P30.1: Common: %d", e)
	}
}
