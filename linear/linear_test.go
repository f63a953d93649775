package linear

import (
	"math/rand"
	"slices"
	"testing"

	"betatron/api"
	"betatron/exact"
	"betatron/matrix"
	"betatron/sample"
)

func TestExamples(t *testing.T) {
	a := sample.Matrix("1 2 / 2 4")
	if y, e := Refute(a, sample.Ratios("3 7")); sample.Text(y...) != "-2 1" || e != api.OK {
		t.Errorf("P6.1: Refute: %s %d", sample.Text(y...), e)
	}
	if _, e := Solve(a, sample.Ratios("3 7")); e != api.ErrConflict {
		t.Errorf("P6.1: Solve: %d", e)
	}
	if _, e := Solve(a, sample.Ratios("3 6")); e != api.ErrSingular {
		t.Errorf("P6.1: Solve: %d", e)
	}
	if _, e := Refute(a, sample.Ratios("3 6")); e != api.ErrSome {
		t.Errorf("P6.1: Refute: %d", e)
	}
	if l, e := Kernel(a); len(l) != 1 || sample.Text(l[0]...) != "-2 1" || e != api.OK {
		t.Errorf("P6.1: Kernel: %v %d", l, e)
	}
	if x, e := Solve(sample.Matrix("1 1 / 1 -1"), sample.Ratios("3 1")); sample.Text(x...) != "2 1" || e != api.OK {
		t.Errorf("P6.1: Solve: %s %d", sample.Text(x...), e)
	}
	form, pivots, e := Echelon(sample.Matrix("0 2 4 / 0 1 2 / 0 0 3"))
	if sample.MatrixText(form) != "0 1 0 / 0 0 1 / 0 0 0" || !slices.Equal(pivots, []int{1, 2}) || e != api.OK {
		t.Errorf("P6.1: Echelon: %s %v %d", sample.MatrixText(form), pivots, e)
	}
	// Two refutations are possible here; the standard one is that of the first row of the reduced matrix.
	if y, _ := Refute(sample.Matrix("1 / 1 / 1"), sample.Ratios("0 1 2")); sample.Text(y...) != "-1/2 0 1/2" {
		t.Errorf("P6.1: Refute: %s", sample.Text(y...))
	}
}

func TestConsequences(t *testing.T) {
	r := rand.New(rand.NewSource(7))
	for k := 0; k < 200; k++ {
		rows, cols := r.Intn(5)+1, r.Intn(4)+1
		a := api.Matrix{Rows: rows, Cols: cols}
		var b []api.Ratio
		for range rows * cols {
			a.Cells = append(a.Cells, exact.Fraction(r.Intn(5)-2, r.Intn(2)+1))
		}
		for range rows {
			b = append(b, exact.Whole(r.Intn(5)-2))
		}
		y, e := Refute(a, b)
		x, f := Solve(a, b)
		if (e == api.ErrSome) == (f == api.ErrConflict) || e == api.OK && !CheckRefute(a, b, y) || f == api.OK && !CheckSolution(a, b, x) {
			t.Fatalf("P6.2: %s: %d %d", sample.MatrixText(a), e, f)
		}
		rank, _ := Rank(a)
		basis, _ := Kernel(a)
		turned, _ := matrix.Transpose(a)
		other, _ := Rank(turned)
		if rank+len(basis) != cols || other != rank {
			t.Fatalf("P6.2: rank of %s", sample.MatrixText(a))
		}
		for _, v := range basis {
			if !CheckSolution(a, slices.Repeat(sample.Ratios("0"), rows), v) {
				t.Fatalf("P6.2: kernel of %s", sample.MatrixText(a))
			}
		}
		form, _, _ := Echelon(a)
		again, _, _ := Echelon(form)
		mixed := api.Matrix{Rows: rows, Cols: cols}
		for i := rows - 1; i >= 0; i-- {
			var w exact.Work
			for _, c := range a.Cells[i*cols : (i+1)*cols] {
				mixed.Cells = append(mixed.Cells, w.Mul(c, exact.Fraction(-3, 7)))
			}
		}
		same, _, _ := Echelon(mixed)
		if sample.MatrixText(form) != sample.MatrixText(again) || sample.MatrixText(form) != sample.MatrixText(same) {
			t.Fatalf("P6.2: Echelon of %s", sample.MatrixText(a))
		}
	}
}

func TestErrors(t *testing.T) {
	two, wide := sample.Matrix("1 2 / 3 4"), sample.Matrix("1 2 3 4 5 6 7 8 9")
	if _, e := Rank(wide); e != api.ErrRange {
		t.Errorf("P6.1: Rank: %d", e)
	}
	if _, e := Solve(two, sample.Ratios("1")); e != api.ErrRange {
		t.Errorf("P6.1: Solve: %d", e)
	}
	if _, e := Solve(wide, sample.Ratios("x")); e != api.ErrInvalid {
		t.Errorf("P6.1: Solve: %d", e)
	}
	if _, e := Kernel(api.Matrix{}); e != api.ErrInvalid {
		t.Errorf("P6.1: Kernel: %d", e)
	}
	b := sample.Ratios("3 7")
	if CheckSolution(two, b, sample.Ratios("1")) || CheckSolution(two, b, sample.Ratios("1 x")) || !CheckSolution(two, b, sample.Ratios("1 1")) ||
		CheckSolution(two, b, sample.Ratios("1 2")) || CheckRefute(two, b, sample.Ratios("0 0")) || CheckRefute(sample.Matrix("1 2 / 2 4"), b, sample.Ratios("-4 2")) {
		t.Error("P6.1: checks")
	}
}

// P6.1: numbers of the promised size are not too large.
func TestWeight(t *testing.T) {
	r := rand.New(rand.NewSource(8))
	for range 30 {
		n := r.Intn(5) + 1
		digits := 200 / (2 * n * (n + 1))
		number := func() api.Ratio {
			s := string(rune('1' + r.Intn(9)))
			for range digits - 1 {
				s += string(rune('0' + r.Intn(10)))
			}
			d := "1"
			for range digits - 1 {
				d += string(rune('0' + r.Intn(10)))
			}
			var w exact.Work
			return w.Div(sample.Ratio(s), sample.Ratio(d))
		}
		a := api.Matrix{Rows: n, Cols: n}
		var b []api.Ratio
		for range n * n {
			a.Cells = append(a.Cells, number())
		}
		for range n {
			b = append(b, number())
		}
		if x, e := Solve(a, b); e == api.ErrTooLarge || e == api.OK && !CheckSolution(a, b, x) {
			t.Fatalf("P6.1: Solve: %d", e)
		}
	}
}
