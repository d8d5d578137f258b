package glyph

import (
	"fmt"
	"regexp"
	"strconv"
	"strings"
	"testing"
	"unicode"
	"unicode/utf8"

	"bootjack/api"
)

// shownAs fails unless that is what Show tells, and Read tells it back.
func shownAs(t *testing.T, s, want string) {
	t.Helper()
	if got := Show(s); got != want {
		t.Errorf("Show(%q) = %s, want %s", s, got, want)
	}
	if got, e := Read(want); got != s || e != api.OK {
		t.Errorf("Read(%s) = %q, %d, want %q", want, got, e, s)
	}
}

// unread fails unless Show tells that of no text.
func unread(t *testing.T, s string) {
	t.Helper()
	if got, e := Read(s); got != "" || e != api.ErrText {
		t.Errorf("Read(%q) = %q, %d", s, got, e)
	}
}

// P4.2: the chapter's example, and others that are known.
func TestShowOfKnown(t *testing.T) {
	for s, want := range map[string]string{
		"":                     ``,
		"Straße":               `Stra\u{df}e`,
		"a b~":                 `a b~`,
		`"`:                    `\u{22}`,
		`\`:                    `\u{5c}`,
		`say "\n"`:             `say \u{22}\u{5c}n\u{22}`,
		"\x00":                 `\u{0}`,
		"\x000":                `\u{0}0`,
		"\n":                   `\u{a}`,
		"\x1f ":                `\u{1f} `,
		"~\x7f":                `~\u{7f}`,
		"\u0080":               `\u{80}`,
		"ÿ":                    `\u{ff}`,
		"\u0100":               `\u{100}`,
		"世界":                   `\u{4e16}\u{754c}`,
		"😀":                    `\u{1f600}`,
		"\ud7ff\ue000":         `\u{d7ff}\u{e000}`,
		"\uffff":               `\u{ffff}`,
		"\U0010ffff":           `\u{10ffff}`,
		"\ufffd":               `\u{fffd}`,
		"\xff":                 `\xff`,
		"\x80":                 `\x80`,
		"\xef\xbf\ufffd\xef":   `\xef\xbf\u{fffd}\xef`,
		"\xc3\xc3\xa9\xa9":     `\xc3\u{e9}\xa9`,
		"\xe4\xb8a":            `\xe4\xb8a`,
		"\xed\xa0\x80":         `\xed\xa0\x80`,
		"\xf4\x90\x80\x80":     `\xf4\x90\x80\x80`,
		"\xc0\xaf":             `\xc0\xaf`,
		`{u}x`:                 `{u}x`,
		`\u{e9}`:               `\u{5c}u{e9}`,
		`\xff`:                 `\u{5c}xff`,
		`'` + "`" + `%$`:       `'` + "`" + `%$`,
		strings.Repeat("é", 3): `\u{e9}\u{e9}\u{e9}`,
	} {
		shownAs(t, s, want)
	}
}

// P4.2: each rune, alone and beside plain ones; all those below 256 among them.
func TestShowOfEachRune(t *testing.T) {
	for r := rune(0); r <= unicode.MaxRune; r++ {
		if !utf8.ValidRune(r) {
			continue
		}
		want := fmt.Sprintf(`\u{%x}`, r)
		if 32 <= r && r <= 126 && r != '"' && r != '\\' {
			want = string(r)
		}
		shownAs(t, string(r), want)
		if r < 256 {
			shownAs(t, "x"+string(r)+"0", "x"+want+"0")
		}
	}
}

// P4.2: each byte that is none alone, and each kind of them between runes.
func TestShowOfBroken(t *testing.T) {
	for c := 128; c < 256; c++ {
		s := string([]byte{byte(c)})
		shownAs(t, s, fmt.Sprintf(`\x%02x`, c))
		shownAs(t, "é"+s+"a", fmt.Sprintf(`\u{e9}\x%02xa`, c))
	}
	for _, b := range brokenTexts() {
		var want string
		for i := range len(b) {
			want += fmt.Sprintf(`\x%02x`, b[i])
		}
		shownAs(t, b, want)
		shownAs(t, "é"+b+"\ufffd", `\u{e9}`+want+`\u{fffd}`)
	}
}

// shownByLibrary: what is to be told, by the library's own reading of each RUNE.
func shownByLibrary(s string) string {
	var want strings.Builder
	for _, one := range runesOf(s) {
		switch r, _ := utf8.DecodeRuneInString(one); {
		case !utf8.ValidString(one):
			fmt.Fprintf(&want, `\x%02x`, one[0])
		case r < 32 || r > 126 || r == '"' || r == '\\':
			fmt.Fprintf(&want, `\u{%x}`, r)
		default:
			want.WriteRune(r)
		}
	}
	return want.String()
}

// P4.2: each text of two bytes, and those of some pieces: no two are shown alike, as each is read back.
func TestShowOfSome(t *testing.T) {
	for i := range 1 << 16 {
		s := string([]byte{byte(i >> 8), byte(i)})
		shownAs(t, s, shownByLibrary(s))
	}
	for _, s := range someTexts() {
		shownAs(t, s, shownByLibrary(s))
	}
}

// P4.2: texts that Show never tells.
func TestReadOfOthers(t *testing.T) {
	for _, s := range []string{
		`"`, "\n", "\x00", "\x7f", "é", "世", "\ufffd", "\xff", "\xc3", // as they are, but not plain
		`\`, `\\`, `\"`, `\n`, `\q`, `\ `, `\X41`, `\U{e9}`, `\u00e9`, `\ue9`, `\377`, `\0`, // other writings
		`\u`, `\u{`, `\u{}`, `\u{e`, `\u{e9`, `\u{e9)`, `\u{e9\u{e9}`, `\x`, `\xf`, `\x}`, `\xf}`, `\xg0`, `\xfg`, // that break off, or have no digits
		`\u{E9}`, `\u{eF}`, `\u{DF}`, `\xFF`, `\xfF`, `\xFf`, // great digits
		`\u{0e9}`, `\u{00}`, `\u{000e9}`, `\u{0a}`, `\u{010ffff}`, `\u{` + strings.Repeat("0", 1000) + `e9}`, // a 0 ahead of others
		`\u{d800}`, `\u{dbff}`, `\u{dc00}`, `\u{dfff}`, `\u{110000}`, `\u{ffffff}`, // numbers that are no rune
		`\u{7fffffff}`, `\u{80000000}`, `\u{800000e9}`, `\u{1000000e9}`, `\u{ffffffff}`, `\u{ffffffffffffffff}`, `\u{100000000000000e9}`, `\u{` + strings.Repeat("f", 1000) + `}`,
		`\u{61}`, `\u{20}`, `\u{7e}`, `\u{23}`, `\u{5b}`, `\u{5d}`, `\x61`, `\x00`, `\x0a`, `\x7f`, `\x22`, `\x5c`, // runes of which Show tells otherwise
		`\xc3\xa9`, `\xe4\xb8\x96`, `\xef\xbf\xbd`, `\xf0\x9f\x98\x80`, `\xc3\xc3\xa9`, `\xc3\xa9\xa9`, // runes written as their bytes
		`\u{-1}`, `\u{+e9}`, `\u{ e9}`, `\u{e9 }`, `\u{e_9}`, `\u{0xe9}`, `\u{g}`, `\u{é}`, `\u{e9}}"`, `\x+f`, `\x-1`, `\x f`, `\x_f`,
	} {
		unread(t, s)
		unread(t, "a"+s)
		unread(t, `\u{e9}`+s+`\xff\u{22}`)
	}
}

// P4.2: what is shown, broken off at each place: read where RUNES end, refused else.
func TestReadThatBreaksOff(t *testing.T) {
	s := "Stra\xffß\"\xe4\xb8😀\ufffde"
	shown := Show(s)
	ends := map[int]int{0: 0}
	at, of := 0, 0
	for _, one := range runesOf(s) {
		at, of = at+len(Show(one)), of+len(one)
		ends[at] = of
	}
	for i := range len(shown) + 1 {
		if to, ok := ends[i]; ok {
			shownAs(t, s[:to], shown[:i])
		} else {
			unread(t, shown[:i])
		}
	}
}

// shownParts: what one RUNE may be shown as, from its letters alone.
var shownParts = regexp.MustCompile(`^(?:([ !#-\[\]-~])|\\x([0-9a-f]{2})|\\u\{(0|[1-9a-f][0-9a-f]{0,5})\})`)

// readByParts: Read, by the parts' own rules instead of by holding what Show tells against the text.
func readByParts(s string) (string, bool) {
	var b []byte
	count := 0
	for ; s != ""; count++ {
		m := shownParts.FindStringSubmatch(s)
		if m == nil {
			return "", false
		}
		s = s[len(m[0]):]
		switch {
		case m[1] != "":
			b = append(b, m[1]...)
		case m[2] != "":
			n, _ := strconv.ParseUint(m[2], 16, 8)
			b = append(b, byte(n))
			if n < 128 {
				return "", false
			}
		default:
			n, _ := strconv.ParseUint(m[3], 16, 32)
			r := rune(n)
			if !utf8.ValidRune(r) || shownByLibrary(string(r)) != m[0] {
				return "", false
			}
			b = utf8.AppendRune(b, r)
		}
	}
	if len(runesOf(string(b))) != count { // bytes that are a rune together
		return "", false
	}
	return string(b), true
}

// P4.2: each row of up to four pieces of what is shown, whole ones and broken ones.
func TestReadOfSome(t *testing.T) {
	pieces := []string{
		`\`, `x`, `u`, `{`, `}`, `\u{`, `\x`, `0`, `a`, `c3`, `F`, `"`, ` `, "é",
		`\u{e9}`, `\u{fffd}`, `\xc3`, `\xa9`, `\xff`, `d800`,
	}
	for _, s := range rows(pieces, 4) {
		if want, ok := readByParts(s); ok {
			shownAs(t, want, s)
		} else {
			unread(t, s)
		}
	}
}

// P4.2: great texts, of one kind each.
func TestShowOfGreat(t *testing.T) {
	const n = 1 << 16
	shownAs(t, strings.Repeat("a", n), strings.Repeat("a", n))
	shownAs(t, strings.Repeat("é", n), strings.Repeat(`\u{e9}`, n))
	shownAs(t, strings.Repeat("\xff", n), strings.Repeat(`\xff`, n))
	unread(t, strings.Repeat(`\u{`, n))
	unread(t, strings.Repeat(`\u{`, n)+"e9}")
	unread(t, strings.Repeat(`\`, n))
	unread(t, strings.Repeat(`a`, n)+`"`)
}
