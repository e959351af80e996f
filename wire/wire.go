// Package wire: numbers and texts within bytes, as all of the program's bytes have them: see DOC.md, 'Words'.
package wire

// mostBytes of seven bits each hold every number below 2 to the 63, and no greater one.
const mostBytes = 9

// more is set in every byte of a number but its last.
const more = 0x80

// Number writes a number, which is not below 0.
func Number(n int) string {
	var b []byte
	for ; n >= more; n >>= 7 {
		b = append(b, byte(n)|more)
	}
	return string(append(b, byte(n)))
}

// Text writes a text behind its length.
func Text(s string) string {
	return Number(len(s)) + s
}

// ReadNumber takes a number off the front of s. A number that is written longer than Number writes it is none.
func ReadNumber(s string) (n int, rest string, ok bool) {
	for i := 0; i < len(s) && i < mostBytes; i++ {
		n |= int(s[i]&^more) << (7 * i)
		if s[i] >= more {
			continue
		}
		if s[i] == 0 && i > 0 {
			return 0, "", false
		}
		return n, s[i+1:], true
	}
	return 0, "", false
}

// ReadText takes a text off the front of s. Both results are pieces of s.
func ReadText(s string) (text string, rest string, ok bool) {
	n, rest, ok := ReadNumber(s)
	if !ok || n > len(rest) {
		return "", "", false
	}
	return rest[:n], rest[n:], true
}
