package matrix

import (
	"math/rand"
	"testing"

	"betatron/api"
	"betatron/exact"
	"betatron/sample"
)

func random(r *rand.Rand, rows, cols int) api.Matrix {
	return fresh(rows, cols, func(int, int) api.Ratio { return exact.Fraction(r.Intn(9)-4, r.Intn(3)+1) })
}

func TestExamples(t *testing.T) {
	m := sample.Matrix("1/4 5/2 / -1/4 3/2")
	trace, _ := Trace(m)
	det, _ := Det(m)
	inverse, e := Inverse(m)
	square, _ := Power(m, 2)
	if sample.Text(trace, det) != "7/4 1" || sample.MatrixText(inverse) != "3/2 -5/2 / 1/4 1/4" || e != api.OK {
		t.Errorf("P3.1: %s %s %s", sample.Text(trace), sample.Text(det), sample.MatrixText(inverse))
	}
	if sample.MatrixText(square) != "-9/16 35/8 / -7/16 13/8" {
		t.Errorf("P3.1: %s", sample.MatrixText(square))
	}
	if _, e := Inverse(sample.Matrix("1 2 / 2 4")); e != api.ErrSingular {
		t.Errorf("P3.1: Inverse: %d", e)
	}
	transposed, _ := Transpose(sample.Matrix("1 2 3 / 4 5 6"))
	scaled, _ := Scale(transposed, sample.Ratio("-1/2"))
	if sample.MatrixText(scaled) != "-1/2 -2 / -1 -5/2 / -3/2 -3" {
		t.Errorf("P3.1: %s", sample.MatrixText(scaled))
	}
	if r, e := At(transposed, 2, 1); sample.Text(r) != "6" || e != api.OK {
		t.Errorf("P3.1: At: %s", sample.Text(r))
	}
}

func TestConsequences(t *testing.T) {
	r := rand.New(rand.NewSource(3))
	for i := 0; i < 60; i++ {
		n := r.Intn(4) + 1
		a, b, c := random(r, n, n), random(r, n, n), random(r, n, n)
		ab, _ := Mul(a, b)
		ba, _ := Mul(b, a)
		left, _ := Mul(ab, c)
		bc, _ := Mul(b, c)
		right, _ := Mul(a, bc)
		if sample.MatrixText(left) != sample.MatrixText(right) {
			t.Fatal("P3.2: products are not associative")
		}
		sum, _ := Add(b, c)
		whole, _ := Mul(a, sum)
		ac, _ := Mul(a, c)
		parts, _ := Add(ab, ac)
		if sample.MatrixText(whole) != sample.MatrixText(parts) {
			t.Fatal("P3.2: products do not distribute")
		}
		x, _ := Det(a)
		y, _ := Det(b)
		z, _ := Det(ab)
		var w exact.Work
		if !exact.Same(w.Mul(x, y), z) {
			t.Fatalf("P3.2: determinants of %s and %s", sample.MatrixText(a), sample.MatrixText(b))
		}
		p, _ := Trace(ab)
		q, _ := Trace(ba)
		if !exact.Same(p, q) {
			t.Fatal("P3.2: traces")
		}
		one, _ := Identity(n)
		inverse, e := Inverse(a)
		if exact.IsZero(x) != (e == api.ErrSingular) {
			t.Fatalf("P3.1: Inverse with the determinant %s: %d", sample.Text(x), e)
		}
		if e == api.OK {
			u, _ := Mul(a, inverse)
			v, _ := Mul(inverse, a)
			if sample.MatrixText(u) != sample.MatrixText(one) || sample.MatrixText(v) != sample.MatrixText(one) {
				t.Fatal("P3.2: inverse")
			}
		}
		a3, _ := Power(a, 3)
		a5, _ := Power(a, 5)
		a2, _ := Power(a, 2)
		a23, _ := Mul(a2, a3)
		if sample.MatrixText(a5) != sample.MatrixText(a23) {
			t.Fatal("P3.2: powers")
		}
	}
}

func TestErrors(t *testing.T) {
	two, wide := sample.Matrix("1 2 / 3 4"), sample.Matrix("1 2 3 / 4 5 6")
	bad := api.Matrix{Rows: 1, Cols: 1, Cells: []api.Ratio{{}}}
	seven, _ := Identity(7)
	for i, c := range []struct {
		got, want api.Errno
	}{
		{code(Identity(21)), api.ErrRange}, {code(Identity(0)), api.ErrRange}, {code(Add(two, wide)), api.ErrRange},
		{code(Mul(wide, wide)), api.ErrRange}, {code(Mul(two, wide)), api.OK}, {code(Add(two, bad)), api.ErrInvalid},
		{code(Inverse(wide)), api.ErrRange}, {code(Inverse(seven)), api.ErrRange}, {code(Power(two, 61)), api.ErrRange},
		{code(Power(two, -1)), api.ErrRange}, {code(Power(seven, 60)), api.OK}, {code(Power(bad, 61)), api.ErrInvalid},
		{code(Scale(two, api.Ratio{})), api.ErrInvalid}, {code(Transpose(api.Matrix{Rows: 2, Cols: 1, Cells: sample.Ratios("1")})), api.ErrInvalid},
	} {
		if c.got != c.want {
			t.Errorf("P3.1: row %d: %d", i, c.got)
		}
	}
	if _, e := At(two, 2, 0); e != api.ErrRange {
		t.Errorf("P3.1: At: %d", e)
	}
	if _, e := Det(seven); e != api.ErrRange {
		t.Errorf("P3.1: Det: %d", e)
	}
	if _, e := Trace(wide); e != api.ErrRange {
		t.Errorf("P3.1: Trace: %d", e)
	}
	if Valid(api.Matrix{}) || Valid(bad) || !Valid(seven) {
		t.Error("P3.1: Valid")
	}
}

func code(_ api.Matrix, e api.Errno) api.Errno { return e }

func TestMemory(t *testing.T) {
	m := sample.Matrix("1 2 / 3 4")
	c, _ := At(m, 0, 0)
	c.Num.Groups[0] = 9
	u, _ := Transpose(m)
	u.Cells[0].Num.Groups[0] = 9
	if sample.MatrixText(m) != "1 2 / 3 4" {
		t.Error("rules: a result shares memory with an argument")
	}
}

// P3.1: numbers of the promised weight are never too large.
func TestWeight(t *testing.T) {
	for seed := range 20 {
		for n := 1; n <= 3; n++ {
			heavy := func(weight int) api.Matrix {
				each := weight / (n * n)
				return fresh(n, n, func(i, k int) api.Ratio {
					above := 1 + (seed+i+k)%(each-1)
					return sample.Heavy(above, each-above, seed*100+i*10+k)
				})
			}
			small, large := heavy(60), heavy(100)
			if _, e := Det(small); e != api.OK {
				t.Errorf("P3.1: Det: %d", e)
			}
			if _, e := Inverse(small); e != api.OK {
				t.Errorf("P3.1: Inverse: %d", e)
			}
			if _, e := Mul(large, large); e != api.OK {
				t.Errorf("P3.1: Mul: %d", e)
			}
			if _, e := Power(heavy(40), 5); e != api.OK {
				t.Errorf("P3.1: Power: %d", e)
			}
			if _, e := Trace(heavy(200)); e != api.OK {
				t.Errorf("P3.1: Trace: %d", e)
			}
		}
	}
}
