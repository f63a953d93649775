package integer

import "slices"

// The functions of this file compute with sizes: groups without a sign, of any number, the least significant first.
// Each result has memory of its own.

// groupsOf returns the groups of a number.
func groupsOf(n uint64) []int {
	var groups []int
	for n > 0 {
		groups = append(groups, int(n%base))
		n /= base
	}
	return groups
}

// trim takes leading zeros away.
func trim(a []int) []int {
	for len(a) > 0 && a[len(a)-1] == 0 {
		a = a[:len(a)-1]
	}
	return a
}

func compareGroups(a, b []int) int {
	if len(a) != len(b) {
		if len(a) < len(b) {
			return -1
		}
		return 1
	}
	for i := len(a) - 1; i >= 0; i-- {
		if a[i] < b[i] {
			return -1
		}
		if a[i] > b[i] {
			return 1
		}
	}
	return 0
}

func addGroups(a, b []int) []int {
	if len(a) < len(b) {
		a, b = b, a
	}
	result := make([]int, 0, len(a)+1)
	carry := 0
	for i, g := range a {
		g += carry
		if i < len(b) {
			g += b[i]
		}
		carry = 0
		if g >= base {
			g -= base
			carry = 1
		}
		result = append(result, g)
	}
	if carry > 0 {
		result = append(result, carry)
	}
	return result
}

// subGroups returns a - b; b is at most a.
func subGroups(a, b []int) []int {
	result := make([]int, 0, len(a))
	borrow := 0
	for i, g := range a {
		g -= borrow
		if i < len(b) {
			g -= b[i]
		}
		borrow = 0
		if g < 0 {
			g += base
			borrow = 1
		}
		result = append(result, g)
	}
	return trim(result)
}

func mulGroups(a, b []int) []int {
	if len(a) == 0 || len(b) == 0 {
		return nil
	}
	result := make([]int, len(a)+len(b))
	for i, g := range a {
		carry := 0
		for k, h := range b {
			carry += result[i+k] + g*h
			result[i+k] = carry % base
			carry /= base
		}
		result[i+len(b)] = carry
	}
	return trim(result)
}

// divSmall returns the quotient and the remainder of a division by one group.
func divSmall(a []int, b int) ([]int, int) {
	q := make([]int, len(a))
	rest := 0
	for i := len(a) - 1; i >= 0; i-- {
		rest = rest*base + a[i]
		q[i] = rest / b
		rest %= b
	}
	return trim(q), rest
}

// divGroups returns the quotient and the remainder; b is not zero.
func divGroups(a, b []int) ([]int, []int) {
	if compareGroups(a, b) < 0 {
		return nil, slices.Clone(a)
	}
	if len(b) == 1 {
		q, rest := divSmall(a, b[0])
		return q, groupsOf(uint64(rest))
	}
	// Both are scaled so that the leading group of b is at least half of the base: then a digit that is
	// guessed from two groups is at most two too great.
	scale := []int{base / (b[len(b)-1] + 1)}
	rest := append(mulGroups(a, scale), 0)
	divisor := mulGroups(b, scale)
	q := make([]int, len(rest)-len(divisor))
	for i := len(q) - 1; i >= 0; i-- {
		q[i] = divideDigit(rest[i:i+len(divisor)+1], divisor)
	}
	r, _ := divSmall(trim(rest), scale[0])
	return trim(q), r
}

// divideDigit takes as many times divisor from part as possible, and returns this number; part has one group more.
func divideDigit(part, divisor []int) int {
	n := len(divisor)
	top := part[n]*base + part[n-1]
	digit := min(top/divisor[n-1], base-1)
	for digit*divisor[n-2] > (top-digit*divisor[n-1])*base+part[n-2] {
		digit--
	}
	borrow := 0
	for i, g := range divisor {
		borrow += part[i] - digit*g
		part[i] = borrow % base
		borrow /= base
		if part[i] < 0 {
			part[i] += base
			borrow--
		}
	}
	part[n] += borrow
	if part[n] >= 0 {
		return digit
	}
	carry := 0
	for i, g := range divisor {
		carry += part[i] + g
		part[i] = carry % base
		carry /= base
	}
	part[n] += carry
	return digit - 1
}

// gcdGroups uses Lehmer's method: the leading groups decide several steps of Euclid's method at once.
func gcdGroups(a, b []int) []int {
	a, b = slices.Clone(a), slices.Clone(b)
	if compareGroups(a, b) < 0 {
		a, b = b, a
	}
	for len(a) > 3 && len(b) > 0 {
		p, q, r, s := leadingSteps(a, b)
		if q == 0 {
			_, rest := divGroups(a, b)
			a, b = b, rest
			continue
		}
		a, b = combine(a, b, p, q), combine(a, b, r, s)
	}
	if len(b) == 0 {
		return a
	}
	x, y := leading(a, 0), leading(b, 0)
	for y > 0 {
		x, y = y, x%y
	}
	return groupsOf(uint64(x))
}

// leading returns the number that the groups from an index on make; at most three.
func leading(a []int, from int) int {
	n := 0
	for i := min(len(a), from+3) - 1; i >= from; i-- {
		n = n*base + a[i]
	}
	return n
}

// leadingSteps returns the factors with which p a + q b and r a + s b are what some steps of Euclid's method make
// of a and b; q is 0 if no step is certain.
func leadingSteps(a, b []int) (p, q, r, s int) {
	from := len(a) - 3
	x, y := leading(a, from), leading(b, from)
	p, q, r, s = 1, 0, 0, 1
	for y+r != 0 && y+s != 0 {
		step := (x + p) / (y + r)
		if step != (x+q)/(y+s) {
			break
		}
		p, r = r, p-step*r
		q, s = s, q-step*s
		x, y = y, x-step*y
	}
	return p, q, r, s
}

// combine returns p a + q b, which is not negative.
func combine(a, b []int, p, q int) []int {
	result := make([]int, len(a))
	carry := 0
	for i, g := range a {
		carry += p * g
		if i < len(b) {
			carry += q * b[i]
		}
		result[i] = carry % base
		carry /= base
		if result[i] < 0 {
			result[i] += base
			carry--
		}
	}
	return trim(result)
}

// sqrtGroups uses Newton's method from above.
func sqrtGroups(a []int) []int {
	if len(a) == 0 {
		return nil
	}
	root := make([]int, (len(a)+1)/2+1)
	root[len(root)-1] = 1
	for {
		q, _ := divGroups(a, root)
		next, _ := divSmall(addGroups(root, q), 2)
		if compareGroups(next, root) >= 0 {
			return root
		}
		root = next
	}
}
