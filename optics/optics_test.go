package optics

import (
	"math/rand"
	"slices"
	"testing"

	"betatron/api"
	"betatron/exact"
	"betatron/interval"
	"betatron/magnet"
	"betatron/ratio"
	"betatron/sample"
	"betatron/samplebeam"
	"betatron/transfer"
	"betatron/tune"
)

func text(i api.Interval) string { return sample.Text(i.Low, i.High) }

func one(low, high string) []api.Interval { return []api.Interval{sample.Interval(low, high)} }

func TestExamples(t *testing.T) {
	b, qf := samplebeam.Cell(), []string{"qf"}
	if i, e := Trace(b, 1, qf, one("1/2", "7/10")); text(i) != "5/4 7/4" || e != api.OK {
		t.Errorf("P28.1: Trace: %s %d", text(i), e)
	}
	for _, c := range []struct {
		low, high string
		want      int
	}{{"1/2", "7/10", 1}, {"1/2", "9/2", 2}, {"4", "9/2", 3}, {"-4", "-1", 3}, {"1/5", "2/5", 2}} {
		if s, e := Stable(b, 1, qf, one(c.low, c.high)); s != c.want || e != api.OK {
			t.Errorf("P28.1: Stable from %s: %d %d", c.low, s, e)
		}
	}
	if i, e := Tune(b, 1, qf, one("1/2", "7/10"), 20); text(i) != "1/20 3/20" || e != api.OK {
		t.Errorf("P28.1: Tune: %s %d", text(i), e)
	}
	if i, e := Tune(b, 1, nil, nil, 13); text(i) != "1/13 2/13" || e != api.OK {
		t.Errorf("P28.1: Tune: %s %d", text(i), e)
	}
	if !Disagrees(sample.Interval("1/20", "3/20"), api.Bracket{Low: sample.Ratio("1/4"), High: sample.Ratio("1/2")}) || Disagrees(sample.Interval("1/20", "1/4"), api.Bracket{Low: sample.Ratio("1/4"), High: sample.Ratio("1/2")}) ||
		Disagrees(sample.Interval("1", "0"), api.Bracket{Low: sample.Ratio("3"), High: sample.Ratio("4")}) || Disagrees(sample.Interval("0", "1"), api.Bracket{Low: sample.Ratio("4"), High: sample.Ratio("3")}) {
		t.Error("P28.1: Disagrees")
	}
}

func TestConsequences(t *testing.T) {
	b := samplebeam.Line("quad q length 1/3 strength 2 ; quad r strength - 1 ; drift d length 1/2 ;", "q d r d q d r d")
	names := []string{"r", "q"}
	strengths := []api.Interval{sample.Interval("-6/5", "-1"), sample.Interval("1", "11/10")}
	r := rand.New(rand.NewSource(15))
	for plane := 1; plane <= 2; plane++ {
		all, e := Trace(b, plane, names, strengths)
		stable, _ := Stable(b, plane, names, strengths)
		range20, f := Tune(b, plane, names, strengths, 20)
		if e != api.OK || stable == certainlyStable && f != api.OK && f != api.ErrUnstable {
			t.Fatalf("P28.1: %d %d", e, f)
		}
		for range 10 {
			var w exact.Work
			var some []api.Ratio
			for _, i := range strengths {
				some = append(some, w.Add(i.Low, w.Mul(w.Sub(i.High, i.Low), exact.Fraction(r.Intn(11), 10))))
			}
			ring, _ := magnet.Dress(b, names, some)
			for at := range b.Places {
				exactMap, _ := transfer.OneTurn(ring, plane, at)
				m, _ := OneTurn(b, plane, at, names, strengths)
				cells := []api.Interval{m[0][0], m[0][1], m[1][0], m[1][1]}
				for k, c := range []int{0, 1, 3, 4} {
					if !interval.Contains(cells[k], exactMap.Cells[c]) {
						t.Fatal("P28.2: the one-turn map")
					}
				}
				trace := w.Add(exactMap.Cells[0], exactMap.Cells[4])
				if !interval.Contains(all, trace) || stable == certainlyStable && ratio.Cmp(exact.Abs(trace), exact.Whole(2)) >= 0 {
					t.Fatal("P28.2: the trace")
				}
				if f == api.OK {
					bracket, _ := tune.Fraction(exactMap, 30)
					if Disagrees(range20, bracket) {
						t.Fatalf("P28.2: the tune %s and %s", text(range20), sample.Text(bracket.Low, bracket.High))
					}
				}
			}
		}
		narrow := []api.Interval{sample.Interval("-11/10", "-21/20"), strengths[1]}
		less, _ := Trace(b, plane, names, narrow)
		if !interval.Contains(all, less.Low) || !interval.Contains(all, less.High) {
			t.Error("P28.2: narrower intervals")
		}
	}
	blame, e := Blame(b, 1, names, []api.Interval{sample.Interval("-1", "-1"), strengths[1]})
	if !slices.Equal(blame, []string{"q", "r"}) || e != api.OK {
		t.Errorf("P28.1: Blame: %v %d", blame, e)
	}
	blame, _ = Blame(b, 1, names, []api.Interval{sample.Interval("-1", "-1"), sample.Interval("1", "1")})
	if !slices.Equal(blame, []string{"q", "r"}) {
		t.Errorf("P28.1: Blame: %v", blame)
	}
	blame, _ = Blame(b, 1, names, []api.Interval{strengths[0], sample.Interval("1", "1")})
	if !slices.Equal(blame, names) {
		t.Errorf("P28.1: Blame: %v", blame)
	}
}

func TestErrors(t *testing.T) {
	b := samplebeam.Cell()
	for i, c := range []struct {
		plane     int
		names     []string
		strengths []api.Interval
		want      api.Errno
	}{
		{0, []string{"a", "b", "c", "d"}, nil, api.ErrRange}, {1, []string{"a", "b", "c", "d"}, nil, api.ErrTooLarge}, {1, []string{"x"}, nil, api.ErrNotFound}, {1, []string{"d"}, nil, api.ErrState},
		{1, []string{"qf"}, nil, api.ErrRange}, {1, []string{"qf"}, one("1", "0"), api.ErrInvalid}, {1, nil, nil, 0},
	} {
		if _, e := Trace(b, c.plane, c.names, c.strengths); e != c.want {
			t.Errorf("P28.1: Trace, row %d: %d", i, e)
		}
		if _, e := Blame(b, c.plane, c.names, c.strengths); e != c.want {
			t.Errorf("P28.1: Blame, row %d: %d", i, e)
		}
	}
	if _, e := OneTurn(b, 1, 4, nil, nil); e != api.ErrRange {
		t.Errorf("P28.1: OneTurn: %d", e)
	}
	for denominator, want := range map[int]api.Errno{0: api.ErrRange, 21: api.ErrRange, 20: api.ErrUnstable} {
		if _, e := Tune(b, 1, []string{"qf"}, one("0", "1"), denominator); e != want {
			t.Errorf("P28.1: Tune: %d", e)
		}
	}
	if _, e := Stable(api.Beamline{}, 1, nil, nil); e != api.ErrEmpty {
		t.Errorf("P28.1: Stable: %d", e)
	}
}
