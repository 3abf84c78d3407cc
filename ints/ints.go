// Package ints is numbers that don't go over.
package ints

import (
	"math/bits"

	"chamberlain/api"
)

const (
	greatest = 1<<63 - 1 // the greatest number's size
	least    = 1 << 63   // the least number's size: one more, behind a minus
	longest  = 20        // a minus and 19 digits
)

// Add is a sum.
func Add(a, b int64) (int64, api.Errno) {
	sum := a + b
	// It wrapped round just if both stand on one side of 0 and the sum on the other one.
	if (a < 0) == (b < 0) && (sum < 0) != (a < 0) {
		return 0, api.ErrRange
	}
	return sum, api.OK
}

// Sub is a difference.
func Sub(a, b int64) (int64, api.Errno) {
	difference := a - b
	// It wrapped round just if both stand on different sides of 0 and the difference isn't on a's.
	if (a < 0) != (b < 0) && (difference < 0) != (a < 0) {
		return 0, api.ErrRange
	}
	return difference, api.OK
}

// Mul is a product.
func Mul(a, b int64) (int64, api.Errno) {
	high, low := bits.Mul64(size(a), size(b))
	if high != 0 {
		return 0, api.ErrRange
	}
	return signed((a < 0) != (b < 0), low)
}

// Neg is the opposite.
func Neg(a int64) (int64, api.Errno) {
	return signed(a >= 0, size(a))
}

// Show are a number's digits.
func Show(a int64) string {
	var digits [longest]byte
	at := longest
	rest := size(a)
	for {
		at--
		digits[at] = '0' + byte(rest%10)
		rest /= 10
		if rest == 0 {
			break
		}
	}
	if a < 0 {
		at--
		digits[at] = '-'
	}
	return string(digits[at:])
}

// Read is the number of digits.
func Read(s string) (int64, api.Errno) {
	below := len(s) > 0 && s[0] == '-'
	digits := s
	if below {
		digits = s[1:]
	}
	if !shown(below, digits) {
		return 0, api.ErrForm
	}
	total, fits := told(digits)
	if !fits {
		return 0, api.ErrRange
	}
	return signed(below, total)
}

// size is how far a number is from 0. Unsigned, so that the least number has one too.
func size(a int64) uint64 {
	if a < 0 {
		return -uint64(a)
	}
	return uint64(a)
}

// signed is the number of a size, below 0 or not.
func signed(below bool, from0 uint64) (int64, api.Errno) {
	if below && from0 <= least {
		return int64(-from0), api.OK
	}
	if !below && from0 <= greatest {
		return int64(from0), api.OK
	}
	return 0, api.ErrRange
}

// shown tells whether digits, behind a minus or not, are those of some number, however great.
func shown(below bool, digits string) bool {
	if digits == "" || digits[0] == '0' && (below || len(digits) > 1) {
		return false
	}
	for i := range len(digits) {
		if digits[i] < '0' || digits[i] > '9' {
			return false
		}
	}
	return true
}

// told is the size that digits tell; false: it has more than 64 bits.
func told(digits string) (uint64, bool) {
	total := uint64(0)
	for i := range len(digits) {
		high, low := bits.Mul64(total, 10)
		more, carry := bits.Add64(low, uint64(digits[i]-'0'), 0)
		if high != 0 || carry != 0 {
			return 0, false
		}
		total = more
	}
	return total, true
}
