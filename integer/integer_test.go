package integer

import (
	"math"
	"math/big"
	"math/rand"
	"slices"
	"strings"
	"testing"

	"betatron/api"
)

func same(a, b api.Integer) bool {
	return a.Negative == b.Negative && slices.Equal(a.Groups, b.Groups)
}

func toBig(a api.Integer) *big.Int {
	n := new(big.Int)
	for i := len(a.Groups) - 1; i >= 0; i-- {
		n.Mul(n, big.NewInt(base)).Add(n, big.NewInt(int64(a.Groups[i])))
	}
	if a.Negative {
		n.Neg(n)
	}
	return n
}

func random(r *rand.Rand, most int) api.Integer {
	groups := make([]int, r.Intn(most+1))
	for i := range groups {
		groups[i] = []int{0, base - 1, r.Intn(base), r.Intn(3), r.Intn(base)}[r.Intn(5)]
	}
	return signed(r.Intn(2) == 0, trim(groups))
}

// P1.1 and P1.2: against the integers of the library.
func TestAgainstBig(t *testing.T) {
	r := rand.New(rand.NewSource(1))
	for i := 0; i < 4000; i++ {
		a, b := random(r, 40), random(r, 40)
		if i%3 == 0 {
			c := random(r, 30)
			a, _ = Mul(a, c)
			b, _ = Mul(b, c)
		}
		x, y := toBig(a), toBig(b)
		s, _ := Add(a, b)
		d, _ := Sub(a, b)
		p, e := Mul(a, b)
		if toBig(s).Cmp(new(big.Int).Add(x, y)) != 0 || toBig(d).Cmp(new(big.Int).Sub(x, y)) != 0 {
			t.Fatalf("P1.1: sums of %v and %v", a, b)
		}
		if e == api.OK && toBig(p).Cmp(new(big.Int).Mul(x, y)) != 0 {
			t.Fatalf("P1.1: product of %v and %v", a, b)
		}
		if Cmp(a, b) != x.Cmp(y) {
			t.Fatalf("P1.1: Cmp of %v and %v", a, b)
		}
		g, _ := Gcd(a, b)
		if toBig(g).Cmp(new(big.Int).GCD(nil, nil, new(big.Int).Abs(x), new(big.Int).Abs(y))) != 0 {
			t.Fatalf("P1.1: Gcd of %v and %v", a, b)
		}
		q, m, e := DivMod(a, b)
		if y.Sign() == 0 {
			if e != api.ErrSingular {
				t.Fatalf("P1.1: division by zero: %d", e)
			}
			continue
		}
		u, v := new(big.Int).DivMod(x, y, new(big.Int))
		if e != api.OK || toBig(q).Cmp(u) != 0 || toBig(m).Cmp(v) != 0 || !Valid(q) || !Valid(m) {
			t.Fatalf("P1.1: DivMod of %v and %v: %v %v %d", a, b, q, m, e)
		}
		a.Negative = false
		root, e := Sqrt(a)
		if e != api.OK || toBig(root).Cmp(new(big.Int).Sqrt(toBig(a))) != 0 {
			t.Fatalf("P1.1: Sqrt of %v", a)
		}
		text, _ := Format(b)
		if back, e := Parse(text); text != y.String() || e != api.OK || !same(back, b) {
			t.Fatalf("P1.2: text of %v: %s", b, text)
		}
	}
}

func TestOfAndSmall(t *testing.T) {
	for _, n := range []int{0, 1, -1, math.MaxInt, math.MinInt, 1 << 60, -(1 << 60), 1<<60 + 1, 999999, 1000000} {
		a := Of(n)
		if !Valid(a) || toBig(a).Int64() != int64(n) {
			t.Errorf("P1.1: Of(%d) is %v", n, a)
		}
		m, e := Small(a)
		if n >= -(1<<60) && n <= 1<<60 {
			if m != n || e != api.OK {
				t.Errorf("P1.2: Small of %d: %d %d", n, m, e)
			}
		} else if m != 0 || e != api.ErrRange {
			t.Errorf("P1.1: Small of %d: %d %d", n, m, e)
		}
	}
	if _, e := Small(api.Integer{Groups: slices.Repeat([]int{1}, 5)}); e != api.ErrRange {
		t.Errorf("P1.1: Small of a long integer: %d", e)
	}
}

func TestInvalid(t *testing.T) {
	bad := api.Integer{Negative: true}
	one := Of(1)
	for i, e := range []api.Errno{
		second(Add(bad, one)), second(Sub(one, bad)), second(Mul(bad, one)), second(Gcd(bad, one)), second(Sqrt(bad)),
	} {
		if e != api.ErrInvalid {
			t.Errorf("P1.1: row %d: %d", i, e)
		}
	}
	if _, e := Sqrt(Of(-1)); e != api.ErrRange {
		t.Errorf("P1.1: Sqrt of -1: %d", e)
	}
	if Cmp(bad, one) != 0 {
		t.Error("rules: Cmp of an invalid integer")
	}
	for s, want := range map[string]api.Errno{"-0": api.ErrSyntax, "007": api.ErrSyntax, "": api.ErrSyntax, "1.0": api.ErrSyntax,
		strings.Repeat("9", 480): api.OK, strings.Repeat("9", 481): api.ErrTooLarge} {
		if _, e := Parse(s); e != want {
			t.Errorf("P1.1: Parse of %.9s: %d", s, e)
		}
	}
}

func second(_ api.Integer, e api.Errno) api.Errno { return e }

func TestLimits(t *testing.T) {
	most := api.Integer{Groups: slices.Repeat([]int{base - 1}, api.MaxGroups)}
	if _, e := Add(most, Of(1)); e != api.ErrTooLarge {
		t.Errorf("P1.1: Add: %d", e)
	}
	if _, e := Sub(api.Integer{Negative: true, Groups: most.Groups}, Of(1)); e != api.ErrTooLarge {
		t.Errorf("P1.1: Sub: %d", e)
	}
	if _, e := Mul(most, Of(2)); e != api.ErrTooLarge {
		t.Errorf("P1.1: Mul: %d", e)
	}
}

// Rules: no result shares memory with an argument.
func TestMemory(t *testing.T) {
	a, b := api.Integer{Groups: []int{5, 6, 7, 8, 9}}, Of(0)
	results := []api.Integer{}
	for _, f := range []func(a, b api.Integer) (api.Integer, api.Errno){Add, Sub, Gcd} {
		r, _ := f(a, b)
		results = append(results, r)
	}
	_, rest, _ := DivMod(Of(7), a)
	results = append(results, rest)
	for _, r := range results {
		r.Groups[0] = 99
	}
	if a.Groups[0] != 5 {
		t.Error("rules: a result shares memory with an argument")
	}
}
