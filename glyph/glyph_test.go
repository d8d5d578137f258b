package glyph

import (
	"math"
	"strings"
	"testing"
	"unicode"
	"unicode/utf8"

	"bootjack/api"
)

// brokenTexts: texts in which each byte is BROKEN, of each kind: one that only goes on, one that begins and isn't gone on, one that is never met, too long a form, a half of a pair, and a number beyond the last rune.
func brokenTexts() []string {
	return []string{
		"\x80", "\xbf", "\xc3", "\xe4\xb8", "\xf0\x9f\x98", "\xef", "\xef\xbf",
		"\xfe", "\xff", "\xc0\xaf", "\xc1\xbf", "\xe0\x80\xaf", "\xf0\x80\x80\xaf",
		"\xed\xa0\x80", "\xed\xbf\xbf", "\xf4\x90\x80\x80", "\xf5\x80\x80\x80",
	}
}

// rows: each row of up to n pieces, one behind the other.
func rows(pieces []string, n int) []string {
	all, last := []string{""}, []string{""}
	for range n {
		var longer []string
		for _, s := range last {
			for _, p := range pieces {
				longer = append(longer, s+p)
			}
		}
		all, last = append(all, longer...), longer
	}
	return all
}

// someTexts: of letters of each length, of BROKEN bytes, and of such as are a rune only beside each other.
func someTexts() []string {
	return rows([]string{"a", "B", "É", "世", "😀", "\ufffd", "\xc3", "\xa9", "\xef", "\xbf\xbd", "\xff"}, 4)
}

// runesOf: a text's RUNES, each as its bytes, as the library reads them one by one.
func runesOf(s string) []string {
	var runes []string
	for s != "" {
		_, size := utf8.DecodeRuneInString(s)
		runes = append(runes, s[:size])
		s = s[size:]
	}
	return runes
}

func wantName(t *testing.T, s string, ok bool) {
	t.Helper()
	want := api.ErrText
	if ok {
		want = api.OK
	}
	if got := Name(s); got != want {
		t.Errorf("Name(%q) = %d, want %d", s, got, want)
	}
}

// P4.1: none, and each count about the greatest, of letters of each length in bytes.
func TestNameAtEachCount(t *testing.T) {
	if api.MaxName != 24 {
		t.Error("MaxName", api.MaxName)
	}
	for _, letter := range []string{"a", "é", "世", "𐐀"} {
		for n := range 60 {
			wantName(t, strings.Repeat(letter, n), 1 <= n && n <= 24)
		}
		wantName(t, strings.Repeat(letter, 1<<16), false)
		wantName(t, strings.Repeat(letter, 23)+"-", true)
		wantName(t, strings.Repeat(letter, 24)+"-", false)
		wantName(t, strings.Repeat(letter, 24)+"\xff", false)
	}
}

// P4.1: each rune, as the first one, as the second, between two, and as the last of twenty-four.
func TestNameAtEachRune(t *testing.T) {
	for r := rune(0); r <= unicode.MaxRune; r++ {
		if !utf8.ValidRune(r) {
			continue
		}
		behind := unicode.IsLetter(r) || unicode.IsDigit(r) || strings.ContainsRune("-_.", r)
		s := string(r)
		wantName(t, s, unicode.IsLetter(r))
		wantName(t, s+"a", unicode.IsLetter(r))
		wantName(t, "a"+s, behind)
		wantName(t, "aé"+s+"b", behind)
		wantName(t, strings.Repeat("a", 23)+s, behind)
	}
}

// P4.1: some of each kind, told here without the library: what a first one may be, what only stands behind it, and what nowhere may.
func TestNameOfKnown(t *testing.T) {
	for _, s := range []string{"a", "Z", "é", "ß", "Ω", "世", "ʰ", "ǅ", "𐐀"} {
		wantName(t, s, true)
		wantName(t, "a"+s, true)
	}
	for _, s := range []string{"0", "9", "٣", "९", "-", "_", "."} {
		wantName(t, s, false)
		wantName(t, s+"a", false)
		wantName(t, "a"+s, true)
		wantName(t, "a"+s+s+"b", true)
	}
	for _, s := range []string{" ", "\n", "\x00", "\x7f", "/", ",", "+", "~", ":", "\"", "\\", "\u0301", "½", "²", "Ⅷ", "–", "·", "‿", "。", "😀", "\u200d", "\ufffd", "\u00a0"} {
		wantName(t, s, false)
		wantName(t, s+"a", false)
		wantName(t, "a"+s, false)
		wantName(t, "a"+s+"b", false)
	}
}

// P4.1: a BROKEN byte at each place of a name.
func TestNameWithBroken(t *testing.T) {
	name := []rune(strings.Repeat("aé", 10))
	for _, b := range brokenTexts() {
		wantName(t, b, false)
		for at := range len(name) + 1 {
			wantName(t, string(name[:at])+b+string(name[at:]), false)
		}
	}
}

// P4.1: RUNES are counted, BROKEN bytes one by one, U+FFFD itself as one.
func TestLen(t *testing.T) {
	for s, want := range map[string]int{
		"":                        0,
		"a":                       1,
		"Straße":                  6,
		"\ufffd":                  1,
		"\xff":                    1,
		"é\xff世":                  3,
		"\xe4\xb8":                2,
		"\xe4\xb8\x96":            1,
		"\xe4\xb8a":               3,
		"\ufffd\xef\xbf\ufffd":    4,
		"\xed\xa0\x80":            3,
		"\x00\x00":                2,
		"e\u0301":                 2,
		strings.Repeat("世", 7000): 7000,
	} {
		if got := Len(s); got != want {
			t.Errorf("Len(%q) = %d, want %d", s, got, want)
		}
	}
	for _, b := range brokenTexts() {
		if got := Len("a" + b + "é"); got != 2+len(b) {
			t.Errorf("Len of %q between two: %d", b, got)
		}
	}
}

// P4.1: the first n RUNES of each text, below none, within and beyond.
func TestLenAndCutOfSome(t *testing.T) {
	for _, s := range someTexts() {
		runes := runesOf(s)
		if got := Len(s); got != len(runes) {
			t.Errorf("Len(%q) = %d, want %d", s, got, len(runes))
		}
		for n := range len(runes) + 1 {
			if got, want := Cut(s, n), strings.Join(runes[:n], ""); got != want {
				t.Errorf("Cut(%q, %d) = %q, want %q", s, n, got, want)
			}
		}
		for _, n := range []int{len(runes) + 1, len(s) + 1, math.MaxInt} {
			if got := Cut(s, n); got != s {
				t.Errorf("Cut(%q, %d) = %q", s, n, got)
			}
		}
		for _, n := range []int{0, -1, math.MinInt} {
			if got := Cut(s, n); got != "" {
				t.Errorf("Cut(%q, %d) = %q", s, n, got)
			}
		}
	}
}

// P4.1: Cut where a count of bytes would tell otherwise.
func TestCutOfKnown(t *testing.T) {
	for i, c := range []struct {
		s    string
		n    int
		want string
	}{
		{"", 3, ""},
		{"Straße", 4, "Stra"},
		{"Straße", 5, "Straß"},
		{"Straße", 6, "Straße"},
		{"é\xff世a", 2, "é\xff"},
		{"\ufffd\xef\xbfa", 1, "\ufffd"},
		{"\ufffd\xef\xbfa", 2, "\ufffd\xef"},
		{"\ufffd\xef\xbfa", 3, "\ufffd\xef\xbf"},
		{"\xef\xbfa", 1, "\xef"},
		{"ab", 1 << 32, "ab"},
		{"ab", -1 << 32, ""},
		{"ab", 1<<32 + 1, "ab"},
	} {
		if got := Cut(c.s, c.n); got != c.want {
			t.Errorf("%d: Cut(%q, %d) = %q, want %q", i, c.s, c.n, got, c.want)
		}
	}
}

// P4.1: the small letter of each rune, alone and beside a BROKEN byte at either side.
func TestFoldOfEachRune(t *testing.T) {
	for r := rune(0); r <= unicode.MaxRune; r++ {
		if !utf8.ValidRune(r) {
			continue
		}
		want := "\xc3" + string(unicode.ToLower(r)) + "\xbf"
		if got := Fold("\xc3" + string(r) + "\xbf"); got != want {
			t.Errorf("Fold beside BROKEN bytes of %q: %q, want %q", r, got, want)
		}
	}
}

// P4.1: small letters of another length, those that have several capital ones, and BROKEN bytes as they are.
func TestFoldOfKnown(t *testing.T) {
	for s, want := range map[string]string{
		"":                 "",
		"CORE-2":           "core-2",
		"core":             "core",
		"ÀB\xff世":          "àb\xff世",
		"STRASSE":          "strasse",
		"STRAẞE":           "straße",
		"\u212a":           "k",      // three bytes, and one
		"\u212b":           "\u00e5", // three, and two
		"\u0130":           "i",      // two, and one
		"\u023a":           "\u2c65", // two, and three
		"\u01c5":           "\u01c6", // neither small nor great
		"ΣΑΣ":              "σασ",
		"ς":                "ς",
		"𐐀":                "𐐨",
		"\ufffdA":          "\ufffda",
		"A\xc3\x89\xc3Z":   "a\xc3\xa9\xc3z",
		"\xc3A\x89":        "\xc3a\x89",
		"\xef\xbfA\ufffdB": "\xef\xbfa\ufffdb",
	} {
		if got := Fold(s); got != want {
			t.Errorf("Fold(%q) = %q, want %q", s, got, want)
		}
	}
	for _, b := range brokenTexts() {
		if got := Fold("É" + b + "B"); got != "é"+b+"b" {
			t.Errorf("Fold with %q: %q", b, got)
		}
	}
}

// P4.1: RUNE by RUNE, as the library has each alone.
func TestFoldOfSome(t *testing.T) {
	for _, s := range someTexts() {
		var want string
		for _, one := range runesOf(s) {
			if utf8.ValidString(one) {
				one = strings.Map(unicode.ToLower, one)
			}
			want += one
		}
		if got := Fold(s); got != want {
			t.Errorf("Fold(%q) = %q, want %q", s, got, want)
		}
	}
}

// P4.1: both Folded, whichever of them comes first.
func TestSame(t *testing.T) {
	for i, c := range []struct {
		a, b string
		same bool
	}{
		{"", "", true},
		{"CORE", "core", true},
		{"Core", "cORE", true},
		{"core", "cor", false},
		{"core", "", false},
		{"core", "bore", false},
		{"É", "é", true},
		{"É", "E", false},
		{"É", "e\u0301", false},
		{"\u212a", "K", true},
		{"\u212a", "k", true},
		{"\u023a", "\u2c65", true},
		{"\u0130", "I", true},
		{"\u0131", "I", false}, // its great letter is an I, but it is a small one
		{"Σ", "σ", true},
		{"ς", "σ", false}, // both have one great letter, but both are small
		{"ſ", "s", false},
		{"ẞ", "ß", true},
		{"ß", "ss", false},
		{"\u01c5", "\u01c4", true},
		{"\xff", "\xff", true},
		{"\xff", "\xfe", false},
		{"\xff", "\ufffd", false},
		{"A\xc3", "a\xc3", true},
		{"\xc3\x89", "\xc3\xa9", true},
		{"\xc3", "\xe3", false},
		{"\xc3A\x89", "\xc3a\xa9", false},
	} {
		if Same(c.a, c.b) != c.same || Same(c.b, c.a) != c.same {
			t.Errorf("%d: Same(%q, %q) isn't %v", i, c.a, c.b, c.same)
		}
	}
}
