// Package utf is layer 1: which bytes are a text, and what its characters are. See shared/doc/01-utf.md.
package utf

import (
	"bytes"
	"strings"

	"emendation/api"
)

// The classes of characters.
const (
	Word = iota + 1
	Space
	Break
	Mark
)

// The least characters that may stand in three and in four bytes, the greatest one of all, and the ones between that are none.
const (
	leastOfThree  = 0x800
	leastOfFour   = 0x10000
	greatest      = 0x10ffff
	firstNoneSuch = 0xd800
	lastNoneSuch  = 0xdfff
)

// Check tells what keeps bytes from being a text.
func Check(b []byte) api.Errno {
	if len(b) > api.MaxText {
		return api.ErrLong
	}
	if bytes.IndexByte(b, 0) >= 0 {
		return api.ErrNul
	}
	s := string(b)
	for at := 0; at < len(s); {
		_, n := Next(s, at)
		if n == 0 {
			return api.ErrUTF
		}
		at += n
	}
	return api.OK
}

// Next is the character at a place, and how many bytes it has; 0, 0: there is none. (A byte 0 is a character of one byte, though no text has it.)
func Next(s string, at int) (int, int) {
	if at < 0 || at >= len(s) {
		return 0, 0
	}
	n, c := lead(s[at])
	if n == 0 || n > len(s)-at {
		return 0, 0
	}
	for i := 1; i < n; i++ {
		b := s[at+i]
		if b < 0x80 || b > 0xbf {
			return 0, 0
		}
		c = c<<6 | rune(b&0x3f)
	}
	if !fits(c, n) {
		return 0, 0
	}
	return int(c), n
}

// lead is how many bytes a character has that begins with b, and the bits that b has of it; 0 bytes: none begins with b.
func lead(b byte) (int, rune) {
	switch {
	case b <= 0x7f:
		return 1, rune(b)
	case b >= 0xc2 && b <= 0xdf:
		return 2, rune(b & 0x1f)
	case b >= 0xe0 && b <= 0xef:
		return 3, rune(b & 0x0f)
	case b >= 0xf0 && b <= 0xf4:
		return 4, rune(b & 0x07)
	}
	return 0, 0
}

// fits tells whether a character may stand in n bytes: of one and of two bytes the first byte has settled it.
func fits(c rune, n int) bool {
	switch n {
	case 3:
		return c >= leastOfThree && (c < firstNoneSuch || c > lastNoneSuch)
	case 4:
		return c >= leastOfFour && c <= greatest
	}
	return true
}

// Class is a character's class.
func Class(c int) int {
	switch {
	case c == '\n' || c == '\r':
		return Break
	case c == '\t' || c == ' ':
		return Space
	case c >= 33 && c <= 47, c >= 58 && c <= 64, c >= 91 && c <= 96, c >= 123 && c <= 126:
		return Mark
	}
	return Word
}

// Fold is a text by which labels are compared.
func Fold(s string) string {
	var out strings.Builder
	gap := false
	for i := 0; i < len(s); i++ {
		if blank(s[i]) {
			gap = true
			continue
		}
		if gap && out.Len() > 0 {
			out.WriteByte(' ')
		}
		gap = false
		out.WriteByte(byte(lower(rune(s[i]))))
	}
	return out.String()
}

// blank tells whether a byte is a character of the class Space or Break. (No byte of a longer character is.)
func blank(b byte) bool {
	k := Class(int(b))
	return k == Space || k == Break
}

// lower is a letter A to Z as a to z, and any other character as it is.
func lower(c rune) rune {
	if c >= 'A' && c <= 'Z' {
		return c - 'A' + 'a'
	}
	return c
}

// Escapes tells whether a backslash ahead of a byte makes it a plain one.
func Escapes(c byte) bool {
	return Class(int(c)) == Mark
}
