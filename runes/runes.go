// Package runes is layer 1: see shared/doc/01-runes.md.
package runes

import (
	"iter"
	"strings"
	"unicode/utf8"

	"gimlet/api"
)

// Next: the character at a place of bytes: it and its width; Wait: the bytes end within it; Bad: no character (U+FFFD, width 1); Done: the place is the end. ErrRange (at below 0 or behind the end).
func Next(b []byte, at int) (r rune, width int, how api.How, e api.Errno) {
	if at < 0 || at > len(b) {
		return 0, 0, api.Have, api.ErrRange
	}
	rest := b[at:]
	if len(rest) == 0 {
		return 0, 0, api.Done, api.OK
	}
	// FullRune calls bytes full that no more bytes can mend, too: what it denies is just a character's beginning.
	if !utf8.FullRune(rest) {
		return 0, len(rest), api.Wait, api.OK
	}
	r, width = utf8.DecodeRune(rest)
	if isWrong(r, width) {
		return r, width, api.Bad, api.OK
	}
	return r, width, api.Have, api.OK
}

// isWrong: was a wrong byte passed over? U+FFFD that is written out has three bytes, so the width tells them apart.
func isWrong(r rune, width int) bool { return r == utf8.RuneError && width == 1 }

// beginning: the length of the longest piece at the front that is a beginning of a character. The front must not be a whole character.
func beginning(b []byte) int {
	n := 0
	for n < len(b) && !utf8.FullRune(b[:n+1]) {
		n++
	}
	return n
}

// Good: the length of the longest beginning that can go on to be characters all through.
func Good(b []byte) int {
	at := 0
	for {
		_, width, how, _ := Next(b, at)
		switch how {
		case api.Done:
			return at
		case api.Bad:
			return at + beginning(b[at:])
		}
		at += width
	}
}

// Put: the character's bytes behind b, in new memory; of what is no character those of U+FFFD.
func Put(b []byte, r rune) []byte {
	list := make([]byte, len(b), len(b)+utf8.UTFMax)
	copy(list, b)
	return utf8.AppendRune(list, r)
}

// All: places and characters, as Go's own range over the string gives them.
func All(s string) iter.Seq2[int, rune] {
	return func(yield func(int, rune) bool) {
		for at, r := range s {
			if !yield(at, r) {
				return
			}
		}
	}
}

// Runes: the characters of s, as Go's own conversion gives them.
func Runes(s string) []rune { return []rune(s) }

// Join: the string of these characters, as Go's own conversion gives it.
func Join(list []rune) string { return string(list) }

// Mend: s with U+FFFD in the place of each byte that is of no character.
func Mend(s string) string {
	var out strings.Builder
	for _, r := range All(s) {
		out.WriteRune(r)
	}
	return out.String()
}

// MendParts: s with one U+FFFD in the place of each longest piece that is a character's beginning, or a single byte that begins none.
func MendParts(s string) string {
	var out strings.Builder
	mended := 0 // the place behind the last piece of wrong bytes
	for at, r := range All(s) {
		if at < mended {
			continue
		}
		out.WriteRune(r)
		if r == utf8.RuneError {
			mended = at + pieceWidth(s[at:])
		}
	}
	return out.String()
}

// pieceWidth: how many bytes the U+FFFD stands for that range gives at the front of s.
func pieceWidth(s string) int {
	if r, width := utf8.DecodeRuneInString(s); !isWrong(r, width) {
		return width
	}
	// No beginning of a character is longer than this, so that the rest needn't be copied.
	front := []byte(s[:min(len(s), utf8.UTFMax-1)])
	return max(1, beginning(front))
}

// At: the place of a byte. ErrRange (at below 0 or behind the end).
func At(b []byte, at int) (api.Place, api.Errno) {
	if at < 0 || at > len(b) {
		return api.Place{}, api.ErrRange
	}
	place := api.Place{Byte: at, Line: 1, Column: 1}
	for i, r := range string(b[:at]) {
		place.Rune++
		place.Column++
		if endsLine(b, i, r) {
			place.Line++
			place.Column = 1
		}
	}
	return place, api.OK
}

// endsLine: does a line end behind the character r at i? What follows is looked up in all of b: it may stand behind the place that is asked for.
func endsLine(b []byte, i int, r rune) bool {
	if r == '\r' {
		return i+1 == len(b) || b[i+1] != '\n'
	}
	return r == '\n'
}

// Byte: where the character of that number begins. ErrRange (below 0, or behind the number of characters).
func Byte(s string, number int) (int, api.Errno) {
	if number < 0 {
		return 0, api.ErrRange
	}
	for at := range All(s) {
		if number == 0 {
			return at, api.OK
		}
		number--
	}
	if number > 0 {
		return 0, api.ErrRange
	}
	return len(s), api.OK
}

// Decoder takes bytes one by one.
type Decoder struct {
	taken [utf8.UTFMax]byte // a character's beginning
	count int               // how many of these have been taken
	bad   bool
}

// New: nothing taken yet.
func New() *Decoder { return &Decoder{} }

// Take: one byte more: Have, and a character that it ends; Wait; Bad, and nothing is taken from then on.
func (d *Decoder) Take(x byte) (rune, api.How) {
	if d == nil {
		return 0, api.Have
	}
	if d.bad {
		return 0, api.Bad
	}
	piece := d.taken
	piece[d.count] = x
	r, width, how, _ := Next(piece[:d.count+1], 0)
	switch how {
	case api.Have:
		*d = Decoder{}
	case api.Wait:
		d.taken, d.count = piece, width
	default:
		d.bad = true
		return 0, api.Bad
	}
	return r, how
}

// Pending: how many bytes of a character have been taken.
func (d *Decoder) Pending() int {
	if d == nil {
		return 0
	}
	return d.count
}
