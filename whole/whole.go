// Package whole: whole numbers of 64 bits, checked, and their one text: see doc/01-whole.md.
package whole

import (
	"math"
	"math/bits"
	"strconv"

	"quadrille/api"
)

// Int is the types that sums are checked of.
type Int interface{ ~int32 | ~int64 }

// Add gives the sum; false: it does not fit.
func Add[T Int](a, b T) (T, bool) {
	// A sum that wrapped has moved away from a against b's sign.
	sum := a + b
	if (b < 0) != (sum < a) {
		return 0, false
	}
	return sum, true
}

// Sub gives the difference; false: it does not fit.
func Sub[T Int](a, b T) (T, bool) {
	// A difference that wrapped has moved away from a with b's sign.
	diff := a - b
	if (b > 0) != (diff < a) {
		return 0, false
	}
	return diff, true
}

// Mul gives the product; false: it does not fit.
func Mul[T Int](a, b T) (T, bool) {
	if a == 0 || b == 0 {
		return 0, true
	}
	// The sign is asked too, because the least number by -1 wraps to itself, and so does its quotient by -1.
	product := a * b
	if (product < 0) != ((a < 0) != (b < 0)) || product/b != a {
		return 0, false
	}
	return product, true
}

// Quo gives the quotient, what is behind the point left away.
func Quo(a, b int64) (int64, api.Errno) {
	if b == 0 {
		return 0, api.ErrZero
	}
	if a == math.MinInt64 && b == -1 {
		return 0, api.ErrOver
	}
	return a / b, api.OK
}

// Mod gives what is left, of the sign of b.
func Mod(a, b int64) (int64, api.Errno) {
	if b == 0 {
		return 0, api.ErrZero
	}
	// Go's rest has the sign of a; it and b are of different signs where b is added, so that sum fits.
	rest := a % b
	if rest != 0 && (rest < 0) != (b < 0) {
		rest += b
	}
	return rest, api.OK
}

// Pow gives a power.
func Pow(a, b int64) (int64, api.Errno) {
	switch {
	case b < 0:
		return 0, api.ErrOver
	case b == 0:
		return 1, api.OK
	case a == 0 || a == 1:
		return a, api.OK
	case a == -1:
		return 1 - 2*(b%2), api.OK
	}
	return growingPow(a, b)
}

// growingPow multiplies one factor at a time: a is at least 2 or at most -2, so the product fits for 63 factors at the most, and what no longer fits never fits again.
func growingPow(a, b int64) (int64, api.Errno) {
	power := int64(1)
	for range b {
		next, fits := Mul(power, a)
		if !fits {
			return 0, api.ErrOver
		}
		power = next
	}
	return power, api.OK
}

// Gcd gives the greatest common divisor.
func Gcd(a, b int64) (int64, api.Errno) {
	return signed(divisor(size(a), size(b)))
}

// Lcm gives the least common multiple.
func Lcm(a, b int64) (int64, api.Errno) {
	if a == 0 || b == 0 {
		return 0, api.OK
	}
	x, y := size(a), size(b)
	high, low := bits.Mul64(x/divisor(x, y), y)
	if high != 0 {
		return 0, api.ErrOver
	}
	return signed(low)
}

// size gives how far n is from 0; without a sign there is room for that of -2^63 too.
func size(n int64) uint64 {
	if n < 0 {
		return -uint64(n)
	}
	return uint64(n)
}

// signed gives n as a number with a sign, if it is one.
func signed(n uint64) (int64, api.Errno) {
	if n > math.MaxInt64 {
		return 0, api.ErrOver
	}
	return int64(n), api.OK
}

// divisor gives the greatest common divisor, by Euclid's way, which takes less than a hundred steps of 64 bits.
func divisor(x, y uint64) uint64 {
	for y != 0 {
		x, y = y, x%y
	}
	return x
}

// Text writes a number.
func Text(n int64) string {
	return strconv.FormatInt(n, 10)
}

// Read reads what Text writes.
func Read(s string) (int64, api.Errno) {
	if !isForm(s) {
		return 0, api.ErrNumber
	}
	if s[0] == '-' {
		return readBelow(s[1:])
	}
	below, e := readBelow(s)
	if e != api.OK || below == math.MinInt64 {
		return 0, api.ErrOver
	}
	return -below, api.OK
}

// isForm tells whether s is the one form of some number, of whatever size.
func isForm(s string) bool {
	if s == "0" {
		return true
	}
	if s != "" && s[0] == '-' {
		s = s[1:]
	}
	if s == "" || s[0] == '0' {
		return false
	}
	for i := range len(s) {
		if s[i] < '0' || s[i] > '9' {
			return false
		}
	}
	return true
}

// readBelow gives the number of the digits, taken below 0, since there is one number more below 0 than above.
func readBelow(digits string) (int64, api.Errno) {
	below := int64(0)
	for i := range len(digits) {
		tens, fits := Mul(below, 10)
		if !fits {
			return 0, api.ErrOver
		}
		below, fits = Sub(tens, int64(digits[i]-'0'))
		if !fits {
			return 0, api.ErrOver
		}
	}
	return below, api.OK
}
