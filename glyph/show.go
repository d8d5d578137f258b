package glyph

import (
	"strconv"
	"strings"
	"unicode/utf8"

	"bootjack/api"
)

const (
	digits    = "0123456789abcdef"
	byteMark  = `\x`  // ahead of a BROKEN byte's digits
	byteSize  = 4     // bytes that such a one is shown in
	runeMark  = `\u{` // ahead of a rune's digits
	runeClose = "}"
)

// Show: a text in plain letters.
func Show(s string) string {
	b := make([]byte, 0, len(s))
	for at, r := range s {
		switch {
		case broken(s, at, r):
			b = append(b, byteMark...)
			b = append(b, digits[s[at]>>4], digits[s[at]&15])
		case plain(r):
			b = append(b, byte(r))
		default:
			b = append(b, runeMark...)
			b = strconv.AppendInt(b, int64(r), 16)
			b = append(b, runeClose...)
		}
	}
	return string(b)
}

// plain: is it shown as it is?
func plain(r rune) bool {
	return 32 <= r && r <= 126 && r != '"' && r != '\\'
}

// Read: the text that is shown.
func Read(s string) (string, api.Errno) {
	b := make([]byte, 0, len(s))
	for rest := s; rest != ""; {
		next, size := readOne(b, rest)
		if size == 0 {
			return "", api.ErrText
		}
		b, rest = next, rest[size:]
	}
	// Each one was read without asking whether Show tells it so: of those that it doesn't, this tells all.
	text := string(b)
	if Show(text) != s {
		return "", api.ErrText
	}
	return text, api.OK
}

// readOne: b with what the first one of a text is read as behind it, and how many bytes that one is shown in; 0, if it is none.
func readOne(b []byte, s string) ([]byte, int) {
	switch {
	case strings.HasPrefix(s, runeMark):
		return readRune(b, s)
	case strings.HasPrefix(s, byteMark):
		return readByte(b, s)
	}
	return append(b, s[0]), 1
}

// readRune: readOne, of a rune's number.
func readRune(b []byte, s string) ([]byte, int) {
	number, _, closed := strings.Cut(s[len(runeMark):], runeClose)
	n, err := strconv.ParseUint(number, 16, 31) // 31 bits: a rune has a sign
	if !closed || err != nil {
		return b, 0
	}
	return utf8.AppendRune(b, rune(n)), len(runeMark) + len(number) + len(runeClose)
}

// readByte: readOne, of a BROKEN byte.
func readByte(b []byte, s string) ([]byte, int) {
	if len(s) < byteSize {
		return b, 0
	}
	n, err := strconv.ParseUint(s[len(byteMark):byteSize], 16, 8)
	if err != nil {
		return b, 0
	}
	return append(b, byte(n)), byteSize
}
