// Package integer is layer 1: see shared/doc/01-integer.md.
package integer

import (
	"strings"

	"betatron/api"
)

const (
	base        = 1000000
	groupDigits = 6
	maxDigits   = api.MaxGroups * groupDigits
	smallest    = 1 << 60
)

// Of returns the integer n.
func Of(n int) api.Integer {
	size := uint64(n)
	if n < 0 {
		size = -size
	}
	return signed(n < 0, groupsOf(size))
}

// Valid reports whether an integer is valid.
func Valid(a api.Integer) bool {
	if len(a.Groups) > api.MaxGroups {
		return false
	}
	for _, g := range a.Groups {
		if g < 0 || g >= base {
			return false
		}
	}
	if len(a.Groups) == 0 {
		return !a.Negative
	}
	return a.Groups[len(a.Groups)-1] != 0
}

// Cmp returns -1, 0 or 1 if a is less than, equal to or greater than b.
func Cmp(a, b api.Integer) int {
	if !Valid(a) || !Valid(b) {
		return 0
	}
	switch {
	case a.Negative && !b.Negative:
		return -1
	case !a.Negative && b.Negative:
		return 1
	case a.Negative:
		return compareGroups(b.Groups, a.Groups)
	}
	return compareGroups(a.Groups, b.Groups)
}

// Add returns the sum.
func Add(a, b api.Integer) (api.Integer, api.Errno) {
	if !Valid(a) || !Valid(b) {
		return api.Integer{}, api.ErrInvalid
	}
	return fitting(sum(a, b))
}

// Sub returns the difference.
func Sub(a, b api.Integer) (api.Integer, api.Errno) {
	if !Valid(a) || !Valid(b) {
		return api.Integer{}, api.ErrInvalid
	}
	return fitting(sum(a, api.Integer{Negative: !b.Negative, Groups: b.Groups}))
}

// sum adds two integers; a zero may be negative here.
func sum(a, b api.Integer) api.Integer {
	if a.Negative == b.Negative {
		return signed(a.Negative, addGroups(a.Groups, b.Groups))
	}
	if compareGroups(a.Groups, b.Groups) >= 0 {
		return signed(a.Negative, subGroups(a.Groups, b.Groups))
	}
	return signed(b.Negative, subGroups(b.Groups, a.Groups))
}

// Mul returns the product.
func Mul(a, b api.Integer) (api.Integer, api.Errno) {
	if !Valid(a) || !Valid(b) {
		return api.Integer{}, api.ErrInvalid
	}
	return fitting(signed(a.Negative != b.Negative, mulGroups(a.Groups, b.Groups)))
}

// DivMod returns the quotient and the remainder, which is at least 0 and less than the size of b.
func DivMod(a, b api.Integer) (api.Integer, api.Integer, api.Errno) {
	if !Valid(a) || !Valid(b) {
		return api.Integer{}, api.Integer{}, api.ErrInvalid
	}
	if len(b.Groups) == 0 {
		return api.Integer{}, api.Integer{}, api.ErrSingular
	}
	q, r := divGroups(a.Groups, b.Groups)
	if a.Negative && len(r) > 0 {
		q = addGroups(q, []int{1})
		r = subGroups(b.Groups, r)
	}
	quotient, e := fitting(signed(a.Negative != b.Negative, q))
	if e != api.OK {
		return api.Integer{}, api.Integer{}, e
	}
	return quotient, signed(false, r), api.OK
}

// Gcd returns the greatest common divisor.
func Gcd(a, b api.Integer) (api.Integer, api.Errno) {
	if !Valid(a) || !Valid(b) {
		return api.Integer{}, api.ErrInvalid
	}
	return signed(false, gcdGroups(a.Groups, b.Groups)), api.OK
}

// Sqrt returns the greatest integer whose square is at most a.
func Sqrt(a api.Integer) (api.Integer, api.Errno) {
	if !Valid(a) {
		return api.Integer{}, api.ErrInvalid
	}
	if a.Negative {
		return api.Integer{}, api.ErrRange
	}
	return signed(false, sqrtGroups(a.Groups)), api.OK
}

// Small returns the value as an int, if it is from -2^60 to 2^60.
func Small(a api.Integer) (int, api.Errno) {
	if !Valid(a) {
		return 0, api.ErrInvalid
	}
	// More than four groups are at least 10^24.
	if len(a.Groups) > 4 {
		return 0, api.ErrRange
	}
	n := 0
	for i := len(a.Groups) - 1; i >= 0; i-- {
		if n > smallest/base {
			return 0, api.ErrRange
		}
		n = n*base + a.Groups[i]
	}
	if n > smallest {
		return 0, api.ErrRange
	}
	if a.Negative {
		n = -n
	}
	return n, api.OK
}

// Format returns the text.
func Format(a api.Integer) (string, api.Errno) {
	if !Valid(a) {
		return "", api.ErrInvalid
	}
	if len(a.Groups) == 0 {
		return "0", api.OK
	}
	var digits []byte
	for i := len(a.Groups) - 1; i >= 0; i-- {
		for unit := base / 10; unit > 0; unit /= 10 {
			digits = append(digits, byte('0'+a.Groups[i]/unit%10))
		}
	}
	text := strings.TrimLeft(string(digits), "0")
	if a.Negative {
		text = "-" + text
	}
	return text, api.OK
}

// Parse returns the integer with a text.
func Parse(s string) (api.Integer, api.Errno) {
	digits, negative := strings.CutPrefix(s, "-")
	if !isNatural(digits) || negative && digits == "0" {
		return api.Integer{}, api.ErrSyntax
	}
	if len(digits) > maxDigits {
		return api.Integer{}, api.ErrTooLarge
	}
	var groups []int
	for end := len(digits); end > 0; end -= groupDigits {
		group := 0
		for _, c := range []byte(digits[max(0, end-groupDigits):end]) {
			group = group*10 + int(c-'0')
		}
		groups = append(groups, group)
	}
	return signed(negative, trim(groups)), api.OK
}

// isNatural reports whether a string has digits alone, without superfluous zeros.
func isNatural(s string) bool {
	if s == "" || len(s) > 1 && s[0] == '0' {
		return false
	}
	for _, c := range []byte(s) {
		if c < '0' || c > '9' {
			return false
		}
	}
	return true
}

// signed returns an integer of its own groups; zero is not negative.
func signed(negative bool, groups []int) api.Integer {
	if len(groups) == 0 {
		return api.Integer{}
	}
	return api.Integer{Negative: negative, Groups: groups}
}

// fitting returns an integer, or the error that it has too many groups.
func fitting(a api.Integer) (api.Integer, api.Errno) {
	if len(a.Groups) > api.MaxGroups {
		return api.Integer{}, api.ErrTooLarge
	}
	return a, api.OK
}
