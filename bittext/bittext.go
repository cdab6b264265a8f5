// Package bittext tells bits as texts of 0s and 1s, in which the tests of the layers that have bits write them.
package bittext

import "strings"

// Bits tells the bits that s's digits are; what is no digit 0 or 1 parts them for the eye alone.
func Bits(s string) []bool {
	var b []bool
	for i := range len(s) {
		if s[i] == '0' || s[i] == '1' {
			b = append(b, s[i] == '1')
		}
	}
	return b
}

// Text tells the digits of b's bits.
func Text(b []bool) string {
	var s strings.Builder
	for _, bit := range b {
		if bit {
			s.WriteByte('1')
		} else {
			s.WriteByte('0')
		}
	}
	return s.String()
}

// Number tells the last width binary digits of n, which is not below 0.
func Number(n, width int) string {
	b := make([]bool, width)
	for i := range b {
		b[i] = n>>(width-1-i)&1 == 1
	}
	return Text(b)
}
