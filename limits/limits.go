// Package limits has the comparison that nearly every layer needs.
package limits

// Inside reports whether a number is from low to high.
func Inside(n, low, high int) bool { return n >= low && n <= high }
