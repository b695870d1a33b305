// Package number is layer 1: exact integers whose absolute value is at most api.MaxNumber.
// See shared/doc/01-number.md.
package number

import (
	"strconv"
	"strings"

	"antecede/api"
)

// maxUpper is the greatest n of Choose, maxTextBytes the greatest length of a text for Parse.
const (
	maxUpper     = 1000
	maxTextBytes = 100
)

// Add returns the sum of two numbers.
func Add(a, b int) (int, api.Errno) {
	switch {
	case !isNumber(a) || !isNumber(b):
		return 0, api.ErrRange
	case !isNumber(a + b):
		return 0, api.ErrBig
	}
	return a + b, api.OK
}

// Mul returns the product of two numbers.
func Mul(a, b int) (int, api.Errno) {
	switch {
	case !isNumber(a) || !isNumber(b):
		return 0, api.ErrRange
	case a != 0 && abs(b) > api.MaxNumber/abs(a):
		return 0, api.ErrBig
	}
	return a * b, api.OK
}

// Sum returns the sum of a list of numbers.
func Sum(l []int) (int, api.Errno) {
	if len(l) > api.MaxList {
		return 0, api.ErrFull
	}
	// MaxList times MaxNumber fits in an int, so that the sum of some elements may exceed
	// MaxNumber without harm.
	sum := 0
	for _, n := range l {
		if !isNumber(n) {
			return 0, api.ErrRange
		}
		sum += n
	}
	if !isNumber(sum) {
		return 0, api.ErrBig
	}
	return sum, api.OK
}

// Floor returns the greatest integer that is at most a / b.
func Floor(a, b int) (int, api.Errno) {
	if !isNumber(a) || !isNumber(b) || b == 0 {
		return 0, api.ErrRange
	}
	quotient, rest := a/b, a%b
	// Go rounds toward zero, which is too high if the exact quotient is negative.
	if rest != 0 && (rest < 0) != (b < 0) {
		quotient--
	}
	return quotient, api.OK
}

// Gcd returns the greatest number that divides both numbers, and 0 if both are 0.
func Gcd(a, b int) (int, api.Errno) {
	if !isNumber(a) || !isNumber(b) {
		return 0, api.ErrRange
	}
	a, b = abs(a), abs(b)
	for b != 0 {
		a, b = b, a%b
	}
	return a, api.OK
}

// Choose returns the number of subsets with k elements of a set with n elements.
func Choose(n, k int) (int, api.Errno) {
	if n < 0 || n > maxUpper || k < 0 || k > n {
		return 0, api.ErrRange
	}
	// After each step the result is the binomial coefficient of n-k+i and i. These do not become
	// less from step to step, so that the last one is too big if one of them is. The product
	// fits in an int: it is at most MaxNumber times maxUpper.
	result := 1
	for i := 1; i <= k; i++ {
		result = result * (n - k + i) / i
		if !isNumber(result) {
			return 0, api.ErrBig
		}
	}
	return result, api.OK
}

// Text returns the decimal form of a number.
func Text(n int) (string, api.Errno) {
	if !isNumber(n) {
		return "", api.ErrRange
	}
	return strconv.Itoa(n), api.OK
}

// Parse returns the number with the decimal form s.
func Parse(s string) (int, api.Errno) {
	if len(s) > maxTextBytes {
		return 0, api.ErrFull
	}
	n, err := strconv.Atoi(s)
	switch {
	case !isIntegerText(s):
		return 0, api.ErrForm
	case err != nil || !isNumber(n):
		// The form is right, so that an error of Atoi means that the integer does not fit in an int.
		return 0, api.ErrBig
	}
	return n, api.OK
}

func isNumber(n int) bool {
	return -api.MaxNumber <= n && n <= api.MaxNumber
}

func abs(n int) int {
	return max(n, -n)
}

// isIntegerText tells whether s is the text of an integer of any size.
func isIntegerText(s string) bool {
	if s == "0" {
		return true
	}
	digits := strings.TrimPrefix(s, "-")
	if digits == "" || digits[0] == '0' {
		return false
	}
	for i := range len(digits) {
		if digits[i] < '0' || digits[i] > '9' {
			return false
		}
	}
	return true
}
