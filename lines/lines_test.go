package lines

import (
	"regexp"
	"slices"
	"strings"
	"testing"
)

// shortTexts are all texts of at most n bytes of some.
func shortTexts(bytes string, n int) []string {
	short := []string{""}
	for from := 0; len(short[from]) < n; from++ {
		for i := range len(bytes) {
			short = append(short, short[from]+bytes[i:i+1])
		}
	}
	return short
}

// P2.1: lines and ends, as the chapter names them.
func TestSplit(t *testing.T) {
	for _, c := range []struct {
		s     string
		lines []string
		end   bool
	}{
		{"", nil, true},
		{"a", []string{"a"}, false},
		{"a\r\nb", []string{"a", "b"}, false},
		{"a\nb\n", []string{"a", "b"}, true},
		{"a\rb\r", []string{"a", "b"}, true},
		{"a\r\nb\r\n", []string{"a", "b"}, true},
		{"\n", []string{""}, true},
		{"\r", []string{""}, true},
		{"\r\n", []string{""}, true},
		{"\n\r", []string{"", ""}, true},
		{"\r\r\n", []string{"", ""}, true},
		{"\r\n\r", []string{"", ""}, true},
		{"\r\n\n", []string{"", ""}, true},
		{"\n\r\n", []string{"", ""}, true},
		{"\n\na", []string{"", "", "a"}, false},
		{"a\n\n", []string{"a", ""}, true},
		{"a\n ", []string{"a", " "}, false},
		{" a\t\n\tb ", []string{" a\t", "\tb "}, false},
		{"é\u2028\u0085\v\fé\nz", []string{"é\u2028\u0085\v\fé", "z"}, false},
		{"\xff\x00\n\x8d\x8a\r\xc3", []string{"\xff\x00", "\x8d\x8a", "\xc3"}, false},
	} {
		l, end := Split(c.s)
		if !slices.Equal(l, c.lines) || end != c.end {
			t.Errorf("Split(%q): %q, %v, not %q, %v", c.s, l, end, c.lines, c.end)
		}
	}
}

// P2.1: all short texts, held against a pattern that has the three ends.
func TestSplitOfShortTexts(t *testing.T) {
	ends := regexp.MustCompile("\r\n|\n|\r")
	for _, s := range shortTexts("\r\na ", 7) {
		want := ends.Split(s, -1)
		end := want[len(want)-1] == ""
		if end {
			want = want[:len(want)-1]
		}
		l, e := Split(s)
		if !slices.Equal(l, want) || e != end {
			t.Fatalf("Split(%q): %q, %v, not %q, %v", s, l, e, want, end)
		}
	}
}

// P2.1: each line has an LF behind it, the last one if that is asked; R3: the lines stay as they are, and none behind them is read.
func TestJoin(t *testing.T) {
	for _, c := range []struct {
		lines      []string
		open, ends string
	}{
		{nil, "", ""},
		{[]string{}, "", ""},
		{[]string{""}, "", "\n"},
		{[]string{"", ""}, "\n", "\n\n"},
		{[]string{"a"}, "a", "a\n"},
		{[]string{"a", "b"}, "a\nb", "a\nb\n"},
		{[]string{"a", ""}, "a\n", "a\n\n"},
		{[]string{"", " b\t"}, "\n b\t", "\n b\t\n"},
		{[]string{"é", "\xff", "\x00"}, "é\n\xff\n\x00", "é\n\xff\n\x00\n"},
		{[]string{"a\r", "b\n"}, "a\r\nb\n", "a\r\nb\n\n"},
	} {
		all := append(slices.Clone(c.lines), "behind")
		l := all[:len(c.lines)]
		if s := Join(l, false); s != c.open {
			t.Errorf("Join(%q, false): %q, not %q", l, s, c.open)
		}
		if s := Join(l, true); s != c.ends {
			t.Errorf("Join(%q, true): %q, not %q", l, s, c.ends)
		}
		if !slices.Equal(all[:len(c.lines)], c.lines) || all[len(c.lines)] != "behind" {
			t.Errorf("Join changed %q to %q", c.lines, all)
		}
	}
}

// P2.3: lines are joined, and split, as they were; an empty last one without an end isn't told.
func TestJoinedIsSplit(t *testing.T) {
	some := []string{"", "a", " ", "\t", "é", "\xff"}
	lists := [][]string{nil}
	for from := 0; len(lists[from]) < 4; from++ {
		for _, s := range some {
			lists = append(lists, append(slices.Clone(lists[from]), s))
		}
	}
	for _, l := range lists {
		if back, end := Split(Join(l, true)); !slices.Equal(back, l) || !end {
			t.Fatalf("%q with an end: %q, %v", l, back, end)
		}
		want, open := l, true
		if n := len(l); n == 0 || l[n-1] == "" {
			want, open = l[:max(n-1, 0)], false
		}
		if back, end := Split(Join(l, false)); !slices.Equal(back, want) || end == open {
			t.Fatalf("%q without an end: %q, %v", l, back, end)
		}
	}
	for _, s := range shortTexts("\na ", 7) {
		if l, end := Split(s); Join(l, end) != s {
			t.Fatalf("%q, split and joined: %q", s, Join(l, end))
		}
	}
}

// P2.2: what is blank, and what is left between spaces and tabs, of every byte.
func TestBlankAndTrim(t *testing.T) {
	for c := range 256 {
		s := string([]byte{byte(c)})
		gap := c == 9 || c == 32
		if Blank(s) != gap || Blank(" \t"+s+"\t ") != gap {
			t.Errorf("Blank of byte %d: %v", c, Blank(s))
		}
		want := s
		if gap {
			want = ""
		}
		if Trim(s) != want || Trim("\t "+s+" \t") != want {
			t.Errorf("Trim of byte %d: %q", c, Trim("\t "+s+" \t"))
		}
	}
	for _, c := range []struct {
		s, want string
	}{
		{"", ""}, {" ", ""}, {"\t", ""}, {" \t \t", ""}, {"a", "a"}, {" a", "a"}, {"a\t", "a"}, {"\t  a \t b\t ", "a \t b"},
		{" \n ", "\n"}, {"\r", "\r"}, {" \xff ", "\xff"}, {"\u00a0a\u2003", "\u00a0a\u2003"}, {" é é ", "é é"}, {"\v \f", "\v \f"},
	} {
		if s := Trim(c.s); s != c.want {
			t.Errorf("Trim(%q): %q, not %q", c.s, s, c.want)
		}
		if Blank(c.s) != (c.want == "") {
			t.Errorf("Blank(%q): %v", c.s, Blank(c.s))
		}
	}
}

// P2.2: the bytes that a text begins with, and the most that stand side by side.
func TestRunAndLongest(t *testing.T) {
	for _, c := range []struct {
		s          string
		c          byte
		run, longs int
	}{
		{"", 'a', 0, 0}, {"", 0, 0, 0}, {"b", 'a', 0, 0}, {"a", 'a', 1, 1}, {"aaa", 'a', 3, 3},
		{"aab", 'a', 2, 2}, {"aabaaa", 'a', 2, 3}, {"aaabaa", 'a', 3, 3}, {"baab", 'a', 0, 2}, {"baa", 'a', 0, 2}, {"ababab", 'a', 1, 1},
		{"``` x", '`', 3, 3}, {"  \t", ' ', 2, 2}, {"\n\n", '\n', 2, 2}, {"\x00\x00a", 0, 2, 2}, {"éé", 0xc3, 1, 1}, {"\xff\xff", 0xff, 2, 2}, {"AAa", 'a', 0, 1},
	} {
		if n := Run(c.s, c.c); n != c.run {
			t.Errorf("Run(%q, %q): %d, not %d", c.s, c.c, n, c.run)
		}
		if n := Longest(c.s, c.c); n != c.longs {
			t.Errorf("Longest(%q, %q): %d, not %d", c.s, c.c, n, c.longs)
		}
	}
	for _, s := range shortTexts("ab", 10) {
		most := 0
		for strings.Contains(s, strings.Repeat("a", most+1)) {
			most++
		}
		if n := Longest(s, 'a'); n != most {
			t.Fatalf("Longest(%q, a): %d, not %d", s, n, most)
		}
		if n := Run(s, 'a'); n != len(s)-len(strings.TrimLeft(s, "a")) {
			t.Fatalf("Run(%q, a): %d", s, n)
		}
	}
}

// A text as long as one may be is split and joined.
func TestLongText(t *testing.T) {
	const n = 1 << 18
	s := strings.Repeat("ab\r\n", n)
	l, end := Split(s)
	if len(l) != n || !end || l[0] != "ab" || l[n-1] != "ab" {
		t.Errorf("%d lines, %v", len(l), end)
	}
	if Join(l, end) != strings.Repeat("ab\n", n) {
		t.Error("not joined as it was")
	}
}
