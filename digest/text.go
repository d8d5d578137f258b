package digest

import "bootjack/api"

const digits = "0123456789abcdef"

// Text: in digits to sixteen.
func Text(h api.Hash) string {
	b := make([]byte, 0, 2*len(h))
	for _, c := range h {
		b = append(b, digits[c>>4], digits[c&15])
	}
	return string(b)
}

// Parse: of digits to sixteen.
func Parse(s string) (api.Hash, bool) {
	if len(s) != 2*api.HashSize {
		return api.Hash{}, false
	}
	var h api.Hash
	for i := range h {
		high, highOK := digit(s[2*i])
		low, lowOK := digit(s[2*i+1])
		if !highOK || !lowOK {
			return api.Hash{}, false
		}
		h[i] = high<<4 | low
	}
	return h, true
}

// digit: capital letters are none, as no Text has them.
func digit(c byte) (byte, bool) {
	switch {
	case '0' <= c && c <= '9':
		return c - '0', true
	case 'a' <= c && c <= 'f':
		return c - 'a' + 10, true
	}
	return 0, false
}
