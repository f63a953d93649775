package interval

import (
	"math/rand"
	"testing"

	"betatron/api"
	"betatron/exact"
	"betatron/ratio"
	"betatron/sample"
)

func text(i api.Interval) string { return sample.Text(i.Low, i.High) }

func TestExamples(t *testing.T) {
	i, j := sample.Interval("1/2", "2"), sample.Interval("-1", "3")
	for k, c := range []struct {
		f    func(i, j api.Interval) (api.Interval, api.Errno)
		want string
		e    api.Errno
	}{{Add, "-1/2 5", 0}, {Sub, "-5/2 3", 0}, {Mul, "-2 6", 0}, {Div, "? ?", api.ErrSingular}, {Hull, "-1 3", 0}, {Meet, "1/2 2", 0}} {
		if r, e := c.f(i, j); text(r) != c.want || e != c.e {
			t.Errorf("P4.1: row %d: %s %d", k, text(r), e)
		}
	}
	if r, e := Div(j, i); text(r) != "-2 6" || e != api.OK {
		t.Errorf("P4.1: Div: %s %d", text(r), e)
	}
	if r, _ := Outward(sample.Interval("1/3", "2/3"), 2); text(r) != "33/100 67/100" {
		t.Errorf("P4.1: Outward: %s", text(r))
	}
	for _, c := range []struct {
		low, high string
		digits    int
		want      string
	}{{"2", "4", 1, "7/5 2"}, {"0", "1/4", 0, "0 1"}, {"9/4", "9/4", 1, "3/2 3/2"}, {"2", "2", 2, "141/100 71/50"}} {
		if r, e := Sqrt(sample.Interval(c.low, c.high), c.digits); text(r) != c.want || e != api.OK {
			t.Errorf("P4.1: Sqrt of %s: %s %d", c.low, text(r), e)
		}
	}
	if r, _ := Outward(sample.Interval("-1/3", "-1/3"), 1); text(r) != "-2/5 -3/10" {
		t.Errorf("P4.1: Outward: %s", text(r))
	}
}

func TestErrors(t *testing.T) {
	good, turned := sample.Interval("1", "2"), sample.Interval("2", "1")
	for k, c := range []struct{ got, want api.Errno }{
		{code(Add(good, turned)), api.ErrInvalid}, {code(Meet(good, sample.Interval("3", "4"))), api.ErrNone},
		{code(Meet(good, sample.Interval("2", "4"))), api.OK}, {code(Of(api.Ratio{})), api.ErrInvalid},
		{code(Outward(turned, 21)), api.ErrInvalid}, {code(Outward(good, 21)), api.ErrRange}, {code(Sqrt(good, -1)), api.ErrRange},
		{code(Sqrt(sample.Interval("-1", "1"), 2)), api.ErrRange}, {code(Hull(turned, good)), api.ErrInvalid},
		{code(Div(good, sample.Interval("-1", "0"))), api.ErrSingular}, {code(Sub(turned, good)), api.ErrInvalid},
	} {
		if c.got != c.want {
			t.Errorf("P4.1: row %d: %d", k, c.got)
		}
	}
	if Contains(turned, exact.One()) || !Contains(good, exact.One()) || Contains(good, sample.Ratio("9/4")) || Contains(good, api.Ratio{}) {
		t.Error("P4.1: Contains")
	}
	if Compare(good, sample.Interval("3", "4")) != -1 || Compare(sample.Interval("3", "4"), good) != 1 || Compare(good, turned) != 0 || Compare(good, sample.Interval("2", "3")) != 0 {
		t.Error("P4.1: Compare")
	}
}

func code(_ api.Interval, e api.Errno) api.Errno { return e }

func TestConsequences(t *testing.T) {
	r := rand.New(rand.NewSource(4))
	some := func() api.Interval {
		a, b := exact.Fraction(r.Intn(41)-20, r.Intn(5)+1), exact.Fraction(r.Intn(41)-20, r.Intn(5)+1)
		return api.Interval{Low: lesser(a, b), High: greater(a, b)}
	}
	for k := 0; k < 300; k++ {
		i, j := some(), some()
		var w exact.Work
		middle := w.Div(w.Add(i.Low, i.High), exact.Whole(2))
		other := w.Div(w.Add(j.Low, w.Mul(exact.Whole(2), j.High)), exact.Whole(3))
		sum, _ := Add(i, j)
		diff, _ := Sub(i, j)
		product, _ := Mul(i, j)
		if !Contains(sum, w.Add(middle, other)) || !Contains(diff, w.Sub(middle, other)) || !Contains(product, w.Mul(middle, other)) {
			t.Fatalf("P4.2: %s and %s", text(i), text(j))
		}
		if q, e := Div(i, j); e == api.OK && !Contains(q, w.Div(middle, other)) {
			t.Fatalf("P4.2: quotient of %s and %s", text(i), text(j))
		}
		if s, e := Sqrt(i, 3); e == api.OK {
			step := exact.Fraction(1, 1000)
			up, down := w.Add(s.Low, step), w.Sub(s.High, step)
			if ratio.Cmp(w.Mul(s.Low, s.Low), i.Low) > 0 || ratio.Cmp(w.Mul(s.High, s.High), i.High) < 0 ||
				ratio.Cmp(w.Mul(up, up), i.Low) <= 0 || exact.Sign(down) >= 0 && ratio.Cmp(w.Mul(down, down), i.High) >= 0 {
				t.Fatalf("P4.2: Sqrt of %s is %s", text(i), text(s))
			}
		}
	}
}

func TestMemory(t *testing.T) {
	one := exact.One()
	i, _ := Of(one)
	i.Low.Num.Groups[0] = 5
	if text(i) != "5 1" || sample.Text(one) != "1" {
		t.Error("rules: shared memory")
	}
}
