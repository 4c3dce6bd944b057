package recipe

import "strings"

const (
	over = -1 // what is read behind a text's last byte; it is of no kind below

	blanks        = "\t\n\r "
	signs         = "{}+=" // those of one byte
	smallDigits   = "0123456789abcdef"
	capitalDigits = "0123456789ABCDEF"

	leastOfRune = 4 // digits
	mostOfRune  = 6
)

// isOneOf tells whether c is a byte of set.
func isOneOf(c int, set string) bool { return c != over && strings.IndexByte(set, byte(c)) >= 0 }

// isSmall tells whether c is a small letter.
func isSmall(c int) bool { return 'a' <= c && c <= 'z' }

// isDigit tells whether c is one of ten digits.
func isDigit(c int) bool { return '0' <= c && c <= '9' }

// goesOn tells whether c may not stand directly behind a name, a number or a rune.
func goesOn(c int) bool {
	return isSmall(c) || 'A' <= c && c <= 'Z' || isDigit(c) || c == '_'
}

// isShown tells whether a word has c without digits.
func isShown(c int) bool { return 0x20 <= c && c <= 0x7e }

// byteOf answers the byte that two of smallDigits tell.
func byteOf(high, low int) int {
	return strings.IndexByte(smallDigits, byte(high))<<4 | strings.IndexByte(smallDigits, byte(low))
}

// valueOf answers the number that capitalDigits tell: an int needn't have room for ten of them.
func valueOf(digits string, base int64) int64 {
	n := int64(0)
	for _, c := range []byte(digits) {
		n = n*base + int64(strings.IndexByte(capitalDigits, c))
	}
	return n
}

// isRune tells whether capitalDigits are those of a rune.
func isRune(digits string) bool {
	n := len(digits)
	if n < leastOfRune || n > mostOfRune || n > leastOfRune && digits[0] == '0' {
		return false
	}
	return isScalar(rune(valueOf(digits, 16)))
}

// isScalar tells whether r is a scalar value.
func isScalar(r rune) bool {
	return 0 <= r && r <= 0xd7ff || 0xe000 <= r && r <= 0x10ffff
}
