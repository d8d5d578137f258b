package slot

import (
	"strconv"

	"bootjack/api"
	"bootjack/digest"
)

// mostWords: those of a slot that is ready.
const mostWords = 5

// statuses: each at the place of its number.
var statuses = [...]string{"empty", "dirty", "ready", "good", "bad"}

// Text: a slot as text.
func Text(s api.Slot) string {
	if !Right(s) {
		return ""
	}
	text := statuses[s.Status]
	if hasImage(s.Status) {
		text += " " + strconv.FormatUint(s.Version, 10) + " " + strconv.Itoa(s.Size) + " " + digest.Text(s.Digest)
	}
	if s.Status == api.SlotReady {
		text += " " + strconv.Itoa(s.Tries)
	}
	return text
}

// Parse: the slot of a text.
func Parse(text string) (api.Slot, api.Errno) {
	s := slotOf(words(text))
	if text == "" || Text(s) != text {
		return api.Slot{}, api.ErrSlot
	}
	return s, api.OK
}

// words: cut at each blank, empty ones too; of more than any slot has the first ones do, as they can't be its Text.
func words(text string) []string {
	var l []string
	from := 0
	for at, r := range text {
		if len(l) > mostWords {
			return l
		}
		if r == ' ' {
			l = append(l, text[from:at])
			from = at + 1
		}
	}
	return append(l, text[from:])
}

// slotOf may take words for more than they are, and leave some off: Parse holds the slot's Text against all of them.
func slotOf(l []string) api.Slot {
	s := api.Slot{Status: statusOf(l[0])}
	if hasImage(s.Status) && len(l) >= mostWords-1 {
		s.Version = number(l[1])
		s.Size = int(number(l[2]))
		s.Digest, _ = digest.Parse(l[3])
	}
	if s.Status == api.SlotReady && len(l) >= mostWords {
		s.Tries = int(number(l[4]))
	}
	return s
}

// statusOf: -1, which no slot has, of all other words.
func statusOf(word string) int {
	for status, known := range statuses {
		if word == known {
			return status
		}
	}
	return -1
}

// number: 0 of what is none, or too great: then too the Text that is held against the words is another one.
func number(word string) uint64 {
	n, err := strconv.ParseUint(word, 10, 64)
	if err != nil {
		return 0
	}
	return n
}
