// Package word does arithmetic in 32 bits, and has numbers as texts.
package word

import (
	"strconv"

	"hurdle/api"
)

const (
	shiftMask = 31        // a shift counts the five least significant bits only
	prefix    = "0x"      // what every number's text begins with
	roomy     = 1<<60 - 1 // the largest number that leaves room for one more digit
)

// Do answers what comes of a kind of arithmetic on a and b; false, if it is no kind, or divides by 0.
func Do(kind int, a, b uint32) (uint32, bool) {
	switch kind {
	case api.AddK:
		return a + b, true
	case api.SubK:
		return a - b, true
	case api.MulK:
		return a * b, true
	case api.DivK:
		return divide(a, b)
	case api.OrK:
		return a | b, true
	case api.AndK:
		return a & b, true
	case api.LshK:
		return a << (b & shiftMask), true
	case api.RshK:
		return a >> (b & shiftMask), true
	case api.XorK:
		return a ^ b, true
	}
	return 0, false
}

func divide(a, b uint32) (uint32, bool) {
	if b == 0 {
		return 0, false
	}
	return a / b, true
}

// Neg answers 0 less a, modulo 2^32.
func Neg(a uint32) uint32 {
	return 0 - a
}

// Text answers a number's text: 0x and its hexadecimal digits.
func Text(n uint64) string {
	return prefix + strconv.FormatUint(n, 16)
}

// Parse answers the number that has a text, or ErrForm if none has it.
func Parse(s string) (uint64, api.Errno) {
	if len(s) <= len(prefix) {
		return 0, api.ErrForm
	}
	n := uint64(0)
	for at, r := range s {
		if at < len(prefix) {
			if r != rune(prefix[at]) {
				return 0, api.ErrForm
			}
			continue
		}
		d, ok := digit(r)
		// A number that is still 0 behind its first digit has a leading zero.
		if !ok || n > roomy || at > len(prefix) && n == 0 {
			return 0, api.ErrForm
		}
		n = n<<4 | d
	}
	return n, api.OK
}

// digit answers a hexadecimal digit's value. Uppercase ones are none: each number has one text.
func digit(r rune) (uint64, bool) {
	switch {
	case '0' <= r && r <= '9':
		return uint64(r - '0'), true
	case 'a' <= r && r <= 'f':
		return uint64(r-'a') + 10, true
	}
	return 0, false
}
