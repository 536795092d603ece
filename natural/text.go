package natural

import "exodus/api"

const (
	maxText     = 4000          // the greatest length of a text that is parsed
	chunkDigits = 9             // so many decimal digits are converted at once,
	chunkBase   = 1_000_000_000 // since they fit a digit
)

// Text returns the decimal text.
func Text(a api.Nat) string {
	rest := clone(a)
	reversed := []byte{}
	for len(rest) > 0 {
		chunk := divideByDigit(rest, chunkBase)
		rest = trim(rest)
		for range chunkDigits {
			reversed = append(reversed, byte('0'+chunk%10))
			chunk /= 10
		}
	}
	n := len(reversed)
	for n > 0 && reversed[n-1] == '0' {
		n--
	}
	if n == 0 {
		return "0"
	}
	return string(reverse(reversed[:n]))
}

// reverse returns the bytes in the opposite order.
func reverse(text []byte) []byte {
	turned := make([]byte, 0, len(text))
	for i := len(text) - 1; i >= 0; i-- {
		turned = append(turned, text[i])
	}
	return turned
}

// Parse returns the number with a decimal text.
func Parse(s string) (api.Nat, api.Errno) {
	if !isText(s) {
		return nil, api.ErrSyntax
	}
	value := make(api.Nat, len(s)/chunkDigits+1)
	for len(s) > 0 {
		n := (len(s)-1)%chunkDigits + 1
		chunk, scale := readChunk(s[:n])
		addTimes(value, nil, value, scale, chunk)
		s = s[n:]
	}
	return trim(value), api.OK
}

// isText reports whether s is the text of a value and not too long.
func isText(s string) bool {
	if len(s) == 0 || len(s) > maxText || len(s) > 1 && s[0] == '0' {
		return false
	}
	for i := range len(s) {
		if s[i] < '0' || s[i] > '9' {
			return false
		}
	}
	return true
}

// readChunk returns the value of a few decimal digits, and the power of 10 by which they move what is ahead of them.
func readChunk(s string) (uint64, uint64) {
	value, scale := uint64(0), uint64(1)
	for i := range len(s) {
		value = 10*value + uint64(s[i]-'0')
		scale *= 10
	}
	return value, scale
}
