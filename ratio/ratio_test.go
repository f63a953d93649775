package ratio

import (
	"math/big"
	"math/rand"
	"slices"
	"strings"
	"testing"

	"betatron/api"
	"betatron/integer"
)

func must(t *testing.T, s string) api.Ratio {
	t.Helper()
	r, e := Parse(s)
	if e != api.OK {
		t.Fatalf("%s: %d", s, e)
	}
	return r
}

func text(r api.Ratio) string {
	s, _ := Format(r)
	return s
}

func random(r *rand.Rand) api.Ratio {
	a, _ := Of(r.Intn(2001)-1000, r.Intn(60)+1)
	return a
}

func toRat(r api.Ratio) *big.Rat {
	x, _ := new(big.Rat).SetString(text(r))
	return x
}

func TestArithmetic(t *testing.T) {
	r := rand.New(rand.NewSource(2))
	for i := 0; i < 2000; i++ {
		a, b := random(r), random(r)
		x, y := toRat(a), toRat(b)
		s, _ := Add(a, b)
		d, _ := Sub(a, b)
		p, _ := Mul(a, b)
		if toRat(s).Cmp(new(big.Rat).Add(x, y)) != 0 || toRat(d).Cmp(new(big.Rat).Sub(x, y)) != 0 || toRat(p).Cmp(new(big.Rat).Mul(x, y)) != 0 {
			t.Fatalf("P2.1: %s and %s", text(a), text(b))
		}
		if Cmp(a, b) != x.Cmp(y) || !Valid(s) || !Valid(d) || !Valid(p) {
			t.Fatalf("P2.2: Cmp of %s and %s", text(a), text(b))
		}
		q, e := Div(a, b)
		if y.Sign() == 0 {
			if e != api.ErrSingular {
				t.Fatalf("P2.1: division by zero: %d", e)
			}
		} else if toRat(q).Cmp(new(big.Rat).Quo(x, y)) != 0 {
			t.Fatalf("P2.1: quotient of %s and %s", text(a), text(b))
		}
		digits := r.Intn(4)
		rounded, _ := Round(a, digits)
		decimal, _ := Decimal(a, digits)
		if decimal != x.FloatString(digits) && decimal != strings.TrimPrefix(x.FloatString(digits), "-") {
			t.Fatalf("P2.1: Decimal of %s: %s", text(a), decimal)
		}
		if text(must(t, decimal)) != text(rounded) {
			t.Fatalf("P2.2: Parse of %s", decimal)
		}
	}
}

func TestExamples(t *testing.T) {
	a, _ := Of(6, -4)
	sum, _ := Add(must(t, "1/6"), must(t, "1/10"))
	round, _ := Round(must(t, "-5/8"), 2)
	if text(a) != "-3/2" || text(sum) != "4/15" || text(round) != "-63/100" {
		t.Errorf("P2.1: %s %s %s", text(a), text(sum), text(round))
	}
	floor, _ := Floor(a)
	if integer.Cmp(floor, integer.Of(-2)) != 0 {
		t.Error("P2.1: Floor of -3/2")
	}
	for _, c := range []struct {
		s      string
		digits int
		want   string
	}{{"-5/8", 2, "-0.63"}, {"-1/1000", 2, "0.00"}, {"7", 0, "7"}, {"-1/2", 0, "-1"}, {"1/3", 20, "0.33333333333333333333"}} {
		if s, e := Decimal(must(t, c.s), c.digits); s != c.want || e != api.OK {
			t.Errorf("P2.1: Decimal of %s: %s", c.s, s)
		}
	}
}

func TestParse(t *testing.T) {
	long := strings.Repeat("3", 481)
	for s, want := range map[string]api.Errno{"-1.250": 0, "-5/4": 0, "2/4": api.ErrSyntax, "3/1": api.ErrSyntax, "1.": api.ErrSyntax,
		".5": api.ErrSyntax, "0/2": api.ErrSyntax, "1/-2": api.ErrSyntax, "00.5": api.ErrSyntax, "--1.5": api.ErrSyntax, "-.5": api.ErrSyntax,
		"1.-5": api.ErrSyntax, "-0.0": 0, "1/" + long: api.ErrTooLarge, long + "/0": api.ErrTooLarge, long + "/a": api.ErrSyntax, "1/2/3": api.ErrSyntax,
		"1." + strings.Repeat("0", 478): 0, "1." + strings.Repeat("0", 479): api.ErrTooLarge, "-0": api.ErrSyntax, "1.2.3": api.ErrSyntax, "1 .5": api.ErrSyntax} {
		if _, e := Parse(s); e != want {
			t.Errorf("P2.1: Parse of %.12s: %d", s, e)
		}
	}
	if text(must(t, "-1.250")) != "-5/4" || text(must(t, "-0.0")) != "0" {
		t.Error("P2.1: decimal texts")
	}
}

func TestErrors(t *testing.T) {
	one, _ := Of(1, 1)
	if _, e := Of(1<<60+1, 0); e != api.ErrSingular {
		t.Errorf("P2.1: Of: %d", e)
	}
	if _, e := Of(1, 1<<60+1); e != api.ErrRange {
		t.Errorf("P2.1: Of: %d", e)
	}
	if _, e := Make(integer.Of(1), api.Integer{Negative: true}); e != api.ErrInvalid {
		t.Errorf("P2.1: Make: %d", e)
	}
	if _, e := Round(one, 21); e != api.ErrRange {
		t.Errorf("P2.1: Round: %d", e)
	}
	if _, e := Add(api.Ratio{}, one); e != api.ErrInvalid || Valid(api.Ratio{}) || Cmp(api.Ratio{}, one) != 0 {
		t.Errorf("P2.1: the zero value: %d", e)
	}
	big := api.Ratio{Num: integer.Of(1), Den: api.Integer{Groups: append(slices.Repeat([]int{0}, 79), 1)}}
	if _, e := Mul(big, big); e != api.ErrTooLarge {
		t.Errorf("P2.1: Mul: %d", e)
	}
	if _, e := Add(big, must(t, "1/3000000")); e != api.ErrTooLarge {
		t.Errorf("P2.1: Add: %d", e)
	}
	near := api.Ratio{Num: integer.Of(1), Den: api.Integer{Groups: append(append([]int{1}, slices.Repeat([]int{0}, 78)...), 1)}}
	if Cmp(big, near) != 1 || Cmp(near, big) != -1 || Cmp(big, big) != 0 {
		t.Error("P2.1: Cmp of ratios whose products are too large")
	}
}
