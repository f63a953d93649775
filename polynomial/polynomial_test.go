package polynomial

import (
	"math/rand"
	"slices"
	"strings"
	"testing"

	"betatron/api"
	"betatron/exact"
	"betatron/ratio"
	"betatron/sample"
)

func poly(s string) api.Poly { return api.Poly{Coeffs: sample.Ratios(s)} }

func text(p api.Poly) string { return sample.Text(p.Coeffs...) }

func cells(l []api.Interval) string {
	var words []string
	for _, i := range l {
		words = append(words, sample.Text(i.Low, i.High))
	}
	return strings.Join(words, ", ")
}

func TestExamples(t *testing.T) {
	p := poly("-2 0 1")
	if n, e := Roots(p, sample.Interval("0", "2")); n != 1 || e != api.OK {
		t.Errorf("P5.1: Roots: %d %d", n, e)
	}
	if l, e := Isolate(p, sample.Interval("0", "2"), 2); cells(l) != "141/100 71/50" || e != api.OK {
		t.Errorf("P5.1: Isolate: %s %d", cells(l), e)
	}
	if l, _ := Bernstein(p, sample.Interval("0", "1")); sample.Text(l...) != "-2 -2 -1" {
		t.Errorf("P5.1: Bernstein: %s", sample.Text(l...))
	}
	q, i := poly("0 1 -1"), sample.Interval("0", "1")
	if l, e := Above(q, i, sample.Ratio("1/4")); sample.Text(l...) != "0 1/2 1" || e != api.OK {
		t.Errorf("P5.1: Above: %s %d", sample.Text(l...), e)
	}
	if l, e := Above(q, i, sample.Ratio("1/5")); sample.Text(l...) != "1/2" || e != api.ErrConflict {
		t.Errorf("P5.1: Above: %s %d", sample.Text(l...), e)
	}
}

func TestRoots(t *testing.T) {
	for _, c := range []struct {
		p, low, high string
		digits, n    int
		want         string
	}{
		{"0 0 1", "0", "1", 1, 0, ""}, {"0 0 1", "-1", "0", 1, 1, "-1/10 0"}, {"1 -2 1", "0", "1", 0, 1, "0 1"},
		{"-1 3 -3 1", "1", "2", 0, 0, ""}, {"-6 11 -6 1", "0", "3", 1, 3, "9/10 1, 19/10 2, 29/10 3"},
		{"1 0 1", "-5", "5", 3, 0, ""}, {"5", "0", "1", 2, 0, ""}, {"-1 2", "1/2", "1/2", 3, 0, ""},
		{"-1/3 1", "0", "1", 1, 1, "3/10 2/5"}, {"2/9 -1 1", "0", "1", 0, 2, "0 1, 0 1"}, {"0 1", "-1/2", "1/2", 8, 1, "-1/100000000 0"},
	} {
		n, e := Roots(poly(c.p), sample.Interval(c.low, c.high))
		l, f := Isolate(poly(c.p), sample.Interval(c.low, c.high), c.digits)
		if n != c.n || e != api.OK || cells(l) != c.want || f != api.OK {
			t.Errorf("P5.1: %s: %d %d %s %d", c.p, n, e, cells(l), f)
		}
	}
	r := rand.New(rand.NewSource(5))
	for k := 0; k < 100; k++ {
		p, found := poly("1"), map[int]bool{}
		for j := r.Intn(4) + 1; j > 0; j-- {
			a := r.Intn(9) - 4
			found[a] = true
			p, _ = Mul(p, api.Poly{Coeffs: []api.Ratio{exact.Whole(-a), exact.One()}})
		}
		if n, e := Roots(p, sample.Interval("-5", "5")); n != len(found) || e != api.OK {
			t.Fatalf("P5.2: roots of %s: %d", text(p), n)
		}
	}
}

func TestArithmetic(t *testing.T) {
	r := rand.New(rand.NewSource(6))
	some := func() api.Poly {
		l := make([]api.Ratio, r.Intn(6))
		for i := range l {
			l[i] = exact.Fraction(r.Intn(11)-5, r.Intn(3)+1)
		}
		return api.Poly{Coeffs: trim(l)}
	}
	for k := 0; k < 300; k++ {
		p, q, x := some(), some(), exact.Fraction(r.Intn(9)-4, r.Intn(3)+1)
		var w exact.Work
		u, _ := Eval(p, x)
		v, _ := Eval(q, x)
		sum, _ := Add(p, q)
		product, _ := Mul(p, q)
		s, _ := Eval(sum, x)
		m, _ := Eval(product, x)
		if !exact.Same(s, w.Add(u, v)) || !exact.Same(m, w.Mul(u, v)) {
			t.Fatalf("P5.2: values of %s and %s", text(p), text(q))
		}
		dp, _ := Derivative(p)
		dq, _ := Derivative(q)
		left, _ := Mul(dp, q)
		right, _ := Mul(p, dq)
		rule, _ := Add(left, right)
		if d, _ := Derivative(product); text(d) != text(rule) {
			t.Fatalf("P5.2: product rule for %s and %s", text(p), text(q))
		}
		quotient, rest, e := DivMod(p, q)
		if len(q.Coeffs) == 0 {
			if e != api.ErrSingular {
				t.Fatalf("P5.1: DivMod: %d", e)
			}
			continue
		}
		back, _ := Mul(quotient, q)
		back, _ = Add(back, rest)
		if text(back) != text(p) || len(rest.Coeffs) >= len(q.Coeffs) || Valid(quotient) != api.OK {
			t.Fatalf("P5.2: DivMod of %s by %s", text(p), text(q))
		}
		limit := exact.Whole(r.Intn(20))
		i := sample.Interval("-1", "3/2")
		l, e := Above(p, i, limit)
		switch e {
		case api.OK:
			if !CheckAbove(p, i, limit, l) || ratio.Cmp(x, i.Low) >= 0 && ratio.Cmp(x, i.High) <= 0 && ratio.Cmp(u, limit) > 0 {
				t.Fatalf("P5.2: Above of %s", text(p))
			}
		case api.ErrConflict:
			if y, _ := Eval(p, l[0]); ratio.Cmp(y, limit) <= 0 {
				t.Fatalf("P5.1: conflict of %s", text(p))
			}
		default:
			t.Fatalf("P5.1: Above of %s: %d", text(p), e)
		}
	}
}

func TestCheckAbove(t *testing.T) {
	q, i, quarter := poly("0 1 -1"), sample.Interval("0", "1"), sample.Ratio("1/4")
	for points, want := range map[string]bool{"0 1/2 1": true, "0 1": false, "0 1/2 1/2 1": false, "1/2": false, "0 1/4 1/2 1": true, "": false, "0 1/2": false, "1 1/2 0": false} {
		if CheckAbove(q, i, quarter, sample.Ratios(points)) != want {
			t.Errorf("P5.1: CheckAbove of %s", points)
		}
	}
	if !CheckAbove(q, sample.Interval("1/2", "1/2"), quarter, sample.Ratios("1/2")) || CheckAbove(q, i, sample.Ratio("1/5"), sample.Ratios("0 1/2 1")) {
		t.Error("P5.1: CheckAbove")
	}
	if l, e := Above(poly("1/4"), i, quarter); sample.Text(l...) != "0 1" || e != api.OK {
		t.Errorf("P5.1: zero difference: %s %d", sample.Text(l...), e)
	}
	if l, e := Above(api.Poly{}, sample.Interval("2", "2"), quarter); sample.Text(l...) != "2" || e != api.OK {
		t.Errorf("P5.1: one point: %s %d", sample.Text(l...), e)
	}
	// The maximum at 1/3 is no point of a bisection, and the bound is tight.
	if _, e := Above(poly("-1 6 -9"), i, exact.Zero()); e != api.ErrTooLarge {
		t.Errorf("P5.1: undecided: %d", e)
	}
}

func TestErrors(t *testing.T) {
	long := api.Poly{Coeffs: slices.Repeat(sample.Ratios("1"), 14)}
	seven := api.Poly{Coeffs: slices.Repeat(sample.Ratios("1"), 8)}
	one, turned := poly("1"), sample.Interval("1", "0")
	for k, c := range []struct{ got, want api.Errno }{
		{Valid(long), api.ErrTooLarge}, {Valid(poly("1 0")), api.ErrInvalid}, {Valid(api.Poly{}), api.OK}, {Valid(poly("x")), api.ErrInvalid},
		{code(Mul(seven, seven)), api.ErrTooLarge}, {code(Mul(seven, poly("1 1 1 1 1 1"))), api.OK}, {code(Add(one, long)), api.ErrTooLarge},
		{number(Roots(api.Poly{}, sample.Interval("0", "1"))), api.ErrEmpty}, {number(Roots(api.Poly{}, turned)), api.ErrInvalid},
	} {
		if c.got != c.want {
			t.Errorf("P5.1: row %d: %d", k, c.got)
		}
	}
	for k, c := range []struct {
		low, high string
		digits    int
		want      api.Errno
	}{{"0", "1", 9, api.ErrRange}, {"0", "1", -1, api.ErrRange}, {"0", "1000001", 0, api.ErrRange}, {"-2000000", "1", 0, api.ErrRange}, {"-1000000", "1000000", 8, api.OK}} {
		if _, e := Isolate(poly("0 1"), sample.Interval(c.low, c.high), c.digits); e != c.want {
			t.Errorf("P5.1: Isolate, row %d: %d", k, e)
		}
	}
	if _, e := Above(one, turned, exact.One()); e != api.ErrInvalid {
		t.Errorf("P5.1: Above: %d", e)
	}
}

func code(_ api.Poly, e api.Errno) api.Errno { return e }
func number(_ int, e api.Errno) api.Errno    { return e }

// P5.1: numbers of the promised weight are never too large.
func TestWeight(t *testing.T) {
	heavy := func(coeffs, weight, seed int) api.Poly {
		var p api.Poly
		each := weight / coeffs
		for i := range coeffs {
			above := 1 + (seed+i)%(each-1)
			p.Coeffs = append(p.Coeffs, sample.Heavy(above, each-above, seed*10+i))
		}
		p.Coeffs[0] = exact.Neg(p.Coeffs[0])
		return p
	}
	for seed := range 40 {
		i := api.Interval{Low: exact.Neg(sample.Heavy(4, 4, seed)), High: sample.Heavy(5, 3, seed+1)}
		for coeffs := 2; coeffs <= 5; coeffs++ {
			p := heavy(coeffs, 40, seed)
			if _, _, e := DivMod(p, heavy(coeffs-1, 40, seed+9)); e != api.OK {
				t.Errorf("P5.1: DivMod: %d", e)
			}
			if _, e := Bernstein(p, i); e != api.OK {
				t.Errorf("P5.1: Bernstein: %d", e)
			}
			if _, e := Roots(heavy(coeffs, 24, seed), i); e != api.OK {
				t.Errorf("P5.1: Roots: %d", e)
			}
			if _, e := Isolate(heavy(coeffs, 24, seed), i, 8); e != api.OK {
				t.Errorf("P5.1: Isolate: %d", e)
			}
		}
	}
}
