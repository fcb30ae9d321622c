package utf

import (
	"math"
	"slices"
	"strings"
	"testing"
	"unicode/utf8"

	"emendation/api"
)

// wellFormed are bytes of one character each, at the edges that the chapter names.
var wellFormed = []struct {
	s string
	c int
}{
	{"\x00", 0}, {"\x01", 1}, {"a", 'a'}, {"\x7f", 0x7f},
	{"\xc2\x80", 0x80}, {"\xc3\xa9", 233}, {"\xdf\xbf", 0x7ff},
	{"\xe0\xa0\x80", 0x800}, {"\xe2\x82\xac", 0x20ac}, {"\xed\x9f\xbf", 0xd7ff},
	{"\xee\x80\x80", 0xe000}, {"\xef\xbf\xbd", 0xfffd}, {"\xef\xbf\xbf", 0xffff},
	{"\xf0\x90\x80\x80", 0x10000}, {"\xf3\xbf\xbf\xbf", 0xfffff}, {"\xf4\x8f\xbf\xbf", 0x10ffff},
}

// illFormed are bytes at whose beginning no character stands.
var illFormed = []string{
	"\x80", "\xbf", "\xc0\x80", "\xc1\xbf", "\xc2", "\xc2\x7f", "\xc2\xc0", "\xdf", "\xdfa",
	"\xe0\x80\x80", "\xe0\x9f\xbf", "\xe2", "\xe2\x82", "\xe2\x82a", "\xe2a\x82", "\xe2\x82\xc0", "\xe2\xc0\x82",
	"\xed\xa0\x80", "\xed\xad\xbf", "\xed\xae\x80", "\xed\xbf\xbf",
	"\xf0\x80\x80\x80", "\xf0\x8f\xbf\xbf", "\xf0\x90", "\xf0\x90\x80", "\xf0\x90\x80a", "\xf0\x90a\x80", "\xf0a\x80\x80", "\xf0\x90\x80\xc0",
	"\xf4\x90\x80\x80", "\xf4\xbf\xbf\xbf", "\xf5\x80\x80\x80", "\xf8\x88\x80\x80\x80", "\xfe", "\xff",
}

// P1.1: Check's answers, of texts and of bytes that are none.
func TestCheck(t *testing.T) {
	for _, c := range wellFormed {
		want := api.OK
		if c.c == 0 {
			want = api.ErrNul
		}
		for _, s := range []string{c.s, "a" + c.s, c.s + "a", "é" + c.s + c.s} {
			if e := Check([]byte(s)); e != want {
				t.Errorf("Check(%q): %d, not %d", s, e, want)
			}
		}
	}
	for _, c := range illFormed {
		for _, s := range []string{c, "a" + c, c + "a", "€" + c + "€"} {
			if e := Check([]byte(s)); e != api.ErrUTF {
				t.Errorf("Check(%q): %d, not ErrUTF", s, e)
			}
		}
	}
	if Check(nil) != api.OK || Check([]byte{}) != api.OK {
		t.Error("no bytes are no text")
	}
}

// P1.1: where several errors apply, ErrLong is ahead of ErrNul, and that of ErrUTF, wherever they stand.
func TestCheckOrder(t *testing.T) {
	full := strings.Repeat("a", api.MaxText)
	for _, c := range []struct {
		name, s string
		want    api.Errno
	}{
		{"full", full, api.OK},
		{"full of long characters", strings.Repeat("\xf4\x8f\xbf\xbf", api.MaxText/4), api.OK},
		{"one too many", full + "a", api.ErrLong},
		{"one too many, a byte 0", full + "\x00", api.ErrLong},
		{"one too many, no text", "\xff\x00" + full, api.ErrLong},
		{"full, a byte 0 at its end", full[1:] + "\x00", api.ErrNul},
		{"full, cut off at its end", full[1:] + "\xc2", api.ErrUTF},
		{"a byte 0 behind what is no text", "\xff\x00", api.ErrNul},
		{"a byte 0 ahead of what is no text", "\x00\xff", api.ErrNul},
		{"a byte 0 within a character", "\xe2\x00\x82", api.ErrNul},
	} {
		if e := Check([]byte(c.s)); e != c.want {
			t.Errorf("%s: %d, not %d", c.name, e, c.want)
		}
	}
}

// R3: what lies behind a list's length isn't read, and what is handed in isn't changed.
func TestCheckReadsNoFurther(t *testing.T) {
	for _, c := range []struct {
		all  string
		n    int
		want api.Errno
	}{{"a\x00", 1, api.OK}, {"a\xff", 1, api.OK}, {"é", 1, api.ErrUTF}, {"€", 2, api.ErrUTF}} {
		b := []byte(c.all)
		if e := Check(b[:c.n]); e != c.want {
			t.Errorf("Check of %d bytes of %q: %d, not %d", c.n, c.all, e, c.want)
		}
		if string(b) != c.all {
			t.Errorf("Check changed %q to %q", c.all, b)
		}
	}
}

// P1.1: Next at each place of a character, and where there is none.
func TestNext(t *testing.T) {
	for _, w := range wellFormed {
		s := "a" + w.s + "z"
		if c, n := Next(s, 1); c != w.c || n != len(w.s) {
			t.Errorf("Next(%q, 1): %d, %d", s, c, n)
		}
		for at := 2; at < len(s)-1; at++ {
			if c, n := Next(s, at); c != 0 || n != 0 {
				t.Errorf("Next(%q, %d), within a character: %d, %d", s, at, c, n)
			}
		}
		if c, n := Next(s, len(s)-1); c != 'z' || n != 1 {
			t.Errorf("Next(%q) at its last byte: %d, %d", s, c, n)
		}
	}
	for _, i := range illFormed {
		for _, s := range []string{i, i + "z", i + "é"} {
			if c, n := Next(s, 0); c != 0 || n != 0 {
				t.Errorf("Next(%q, 0): %d, %d", s, c, n)
			}
		}
	}
	for _, at := range []int{-1, 3, 4, math.MinInt, math.MaxInt, math.MaxInt - 1} {
		if c, n := Next("aé", at); c != 0 || n != 0 {
			t.Errorf("Next(aé, %d): %d, %d", at, c, n)
		}
	}
	if c, n := Next("", 0); c != 0 || n != 0 {
		t.Errorf("Next of nothing: %d, %d", c, n)
	}
}

// P1.1: Next held against the library, for all bytes of which a character may be made.
func TestNextOfAllBytes(t *testing.T) {
	edges := []byte{0, 'a', 0x7f, 0x80, 0xbf, 0xc0, 0xc2, 0xff}
	for a := range 256 {
		for b := range 256 {
			for _, c := range edges {
				for _, d := range edges {
					all := string([]byte{byte(a), byte(b), c, d})
					for n := 1; n <= len(all); n++ {
						sameAsLibrary(t, all[:n])
					}
				}
			}
		}
	}
	for c := rune(0); c <= utf8.MaxRune; c++ {
		if utf8.ValidRune(c) {
			if k, n := Next(string(c), 0); k != int(c) || n != utf8.RuneLen(c) {
				t.Fatalf("Next of %x: %x, %d", c, k, n)
			}
		}
	}
}

func sameAsLibrary(t *testing.T, s string) {
	r, size := utf8.DecodeRuneInString(s)
	if r == utf8.RuneError && size == 1 {
		r, size = 0, 0
	}
	if c, n := Next(s, 0); c != int(r) || n != size {
		t.Fatalf("Next(%q, 0): %d, %d, not %d, %d", s, c, n, r, size)
	}
}

// P1.3: Next goes through a text from 0 to its end, character by character.
func TestTextIsGoneThrough(t *testing.T) {
	var s string
	var want []int
	for i, w := range wellFormed[1:] {
		other := wellFormed[len(wellFormed)-1-i]
		s += w.s + other.s
		want = append(want, w.c, other.c)
	}
	if Check([]byte(s)) != api.OK {
		t.Fatal("no text")
	}
	var got []int
	at := 0
	for at < len(s) {
		c, n := Next(s, at)
		if n < 1 || n > 4 {
			t.Fatalf("stands at %d: %d, %d", at, c, n)
		}
		got = append(got, c)
		at += n
	}
	if at != len(s) || !slices.Equal(got, want) {
		t.Errorf("gone through to %d of %d: %v", at, len(s), got)
	}
}

// P1.2: the classes' numbers, and the class of every character.
func TestClass(t *testing.T) {
	if Word != 1 || Space != 2 || Break != 3 || Mark != 4 {
		t.Errorf("classes: %d, %d, %d, %d", Word, Space, Break, Mark)
	}
	const marks = "!\"#$%&'()*+,-./" + ":;<=>?@" + "[\\]^_`" + "{|}~"
	for c := -300; c <= 0x110010; c++ {
		want := Word
		switch {
		case c == 10 || c == 13:
			want = Break
		case c == 9 || c == 32:
			want = Space
		case c >= 0 && c < 128 && strings.IndexByte(marks, byte(c)) >= 0:
			want = Mark
		}
		if k := Class(c); k != want {
			t.Errorf("Class(%d): %d, not %d", c, k, want)
		}
	}
	for _, c := range []int{math.MinInt, math.MaxInt, math.MinInt + ' ', math.MinInt + '\n', math.MinInt + '*'} {
		if k := Class(c); k != Word {
			t.Errorf("Class(%d): %d, not Word", c, k)
		}
	}
}

// P1.2: a byte escapes just if it is of the class Mark.
func TestEscapes(t *testing.T) {
	n := 0
	for c := range 256 {
		if Escapes(byte(c)) != (Class(c) == Mark) {
			t.Errorf("Escapes(%d): %v", c, Escapes(byte(c)))
		}
		if Escapes(byte(c)) {
			n++
		}
	}
	if n != 32 {
		t.Errorf("%d bytes escape, not 32", n)
	}
	for _, c := range []byte("!/:@[`{~\\*") {
		if !Escapes(c) {
			t.Errorf("%q doesn't escape", c)
		}
	}
	for _, c := range []byte("09AZaz \t\n\r\x00\x1f\x7f\x80\xff") {
		if Escapes(c) {
			t.Errorf("%q escapes", c)
		}
	}
}

// P1.2, P1.3: what is folded, and folded once more.
func TestFold(t *testing.T) {
	for _, c := range []struct{ s, want string }{
		{"", ""}, {" ", ""}, {" \t\r\n", ""}, {"a", "a"}, {" Ab  C", "ab c"},
		{"A\tB\nC\rD E", "a b c d e"}, {"\r\n a \t\n\r b\r\n", "a b"}, {"a b", "a b"},
		{"ABCDEFGHIJKLMNOPQRSTUVWXYZ", "abcdefghijklmnopqrstuvwxyz"}, {"@AZ[`az{", "@az[`az{"},
		{"ÉÄ É", "ÉÄ É"}, {"\u00a0a\u2003b\u00a0", "\u00a0a\u2003b\u00a0"}, {"\u212a", "\u212a"},
		{"\va\f", "\va\f"}, {"\x00A \x00", "\x00a \x00"}, {"\xff A\xc3", "\xff a\xc3"}, {"\xc3 \xa9", "\xc3 \xa9"},
	} {
		if s := Fold(c.s); s != c.want {
			t.Errorf("Fold(%q): %q, not %q", c.s, s, c.want)
		}
		if s := Fold(Fold(c.s)); s != c.want {
			t.Errorf("Fold(%q), folded: %q, not %q", c.s, s, c.want)
		}
	}
}

// P1.2, P1.3: all short texts of some bytes, held against fields joined by one space.
func TestFoldOfShortTexts(t *testing.T) {
	const bytes = " \t\r\nAz\xc3\x89"
	short := []string{""}
	for from := 0; len(short[from]) < 6; from++ {
		for i := range len(bytes) {
			short = append(short, short[from]+bytes[i:i+1])
		}
	}
	for _, s := range short {
		fields := strings.FieldsFunc(s, func(c rune) bool { return c == ' ' || c == '\t' || c == '\r' || c == '\n' })
		want := strings.ReplaceAll(strings.Join(fields, " "), "A", "a")
		if got := Fold(s); got != want {
			t.Fatalf("Fold(%q): %q, not %q", s, got, want)
		}
		if Fold(want) != want {
			t.Fatalf("Fold(%q): %q", want, Fold(want))
		}
	}
}
