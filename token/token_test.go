package token

import (
	"regexp"
	"slices"
	"strings"
	"testing"
)

// shortTexts are all texts of at most n bytes of some.
func shortTexts(bytes string, n int) []string {
	short := []string{""}
	for from := 0; len(short[from]) < n; from++ {
		for i := range len(bytes) {
			short = append(short, short[from]+bytes[i:i+1])
		}
	}
	return short
}

// shortLists are all lists of at most n texts of some.
func shortLists(texts []string, n int) [][]string {
	lists := [][]string{nil}
	for from := 0; len(lists[from]) < n; from++ {
		for _, s := range texts {
			lists = append(lists, append(slices.Clone(lists[from]), s))
		}
	}
	return lists
}

// P3.1: tokens, as the chapter names them.
func TestCut(t *testing.T) {
	for _, c := range []struct {
		s    string
		want []string
	}{
		{"", nil},
		{"ab, c", []string{"ab", ",", " ", "c"}},
		{"a", []string{"a"}},
		{"Ab09", []string{"Ab09"}},
		{" ", []string{" "}},
		{" \t\t ", []string{" \t\t "}},
		{"a \tb", []string{"a", " \t", "b"}},
		{" a ", []string{" ", "a", " "}},
		{"**", []string{"*", "*"}},
		{"*a*", []string{"*", "a", "*"}},
		{"!!?", []string{"!", "!", "?"}},
		{"a_b-c", []string{"a", "_", "b", "-", "c"}},
		{"\n\n", []string{"\n", "\n"}},
		{"\r\n", []string{"\r", "\n"}},
		{"a\nb", []string{"a", "\n", "b"}},
		{" \n ", []string{" ", "\n", " "}},
		{"\t\r \n", []string{"\t", "\r", " ", "\n"}},
		{"é€\U0010ffff", []string{"é€\U0010ffff"}},
		{"aéb é", []string{"aéb", " ", "é"}},
		{"\u00a0a\u2003b\u2026", []string{"\u00a0a\u2003b\u2026"}},
		{"\x01\x7fa", []string{"\x01\x7fa"}},
		{"\x00a \x00", []string{"\x00a", " ", "\x00"}},
		{"\xffa\xc3 \xa9\x80", []string{"\xffa\xc3", " ", "\xa9\x80"}},
	} {
		if l := Cut(c.s); !slices.Equal(l, c.want) {
			t.Errorf("Cut(%q): %q, not %q", c.s, l, c.want)
		}
	}
}

// P3.1: every byte beside itself, a word and a space.
func TestCutOfEveryByte(t *testing.T) {
	const marks = "!\"#$%&'()*+,-./" + ":;<=>?@" + "[\\]^_`" + "{|}~"
	for c := range 256 {
		s := string([]byte{byte(c)})
		var want []string
		switch {
		case s == " " || s == "\t":
			want = []string{s + s, "a", s + " "}
		case s == "\n" || s == "\r" || strings.Contains(marks, s):
			want = []string{s, s, "a", s, " "}
		default:
			want = []string{s + s + "a" + s, " "}
		}
		if l := Cut(s + s + "a" + s + " "); !slices.Equal(l, want) {
			t.Errorf("byte %d: %q, not %q", c, l, want)
		}
	}
}

// P3.1, P3.3: all short texts, held against a pattern that has the four classes, and joined as they were.
func TestCutOfShortTexts(t *testing.T) {
	tokens := regexp.MustCompile("[ \t]+|a+|[*,\r\n]")
	for _, s := range shortTexts("a \t\r\n*,", 6) {
		want := tokens.FindAllString(s, -1)
		l := Cut(s)
		if !slices.Equal(l, want) {
			t.Fatalf("Cut(%q): %q, not %q", s, l, want)
		}
		if Join(l) != s {
			t.Fatalf("%q, cut and joined: %q", s, Join(l))
		}
	}
	for _, s := range shortTexts("a *\n\xc3\xa9\x00\xff", 5) {
		if l := Cut(s); Join(l) != s || slices.Contains(l, "") {
			t.Fatalf("%q, cut: %q, and joined: %q", s, l, Join(l))
		}
	}
}

// P3.1: all of a list, tokens or not; R3: the list stays as it is, and none behind it is read.
func TestJoin(t *testing.T) {
	for _, c := range []struct {
		list []string
		want string
	}{
		{nil, ""},
		{[]string{}, ""},
		{[]string{""}, ""},
		{[]string{"", "a", ""}, "a"},
		{[]string{"ab", ",", " ", "c"}, "ab, c"},
		{[]string{"c", " ", ",", "ab"}, "c ,ab"},
		{[]string{"a b", "*\n*", "a b"}, "a b*\n*a b"},
		{[]string{"\xc3", "\xa9", "\x00", "\xff"}, "é\x00\xff"},
	} {
		all := append(slices.Clone(c.list), "behind")
		if s := Join(all[:len(c.list)]); s != c.want {
			t.Errorf("Join(%q): %q, not %q", c.list, s, c.want)
		}
		if !slices.Equal(all[:len(c.list)], c.list) || all[len(c.list)] != "behind" {
			t.Errorf("Join changed %q to %q", c.list, all)
		}
	}
}

// P3.2: numbers as the chapter names them.
func TestIds(t *testing.T) {
	for _, c := range []struct {
		lists [][]string
		want  [][]int
	}{
		{nil, nil},
		{[][]string{}, nil},
		{[][]string{nil}, [][]int{{}}},
		{[][]string{{}, nil, {}}, [][]int{{}, {}, {}}},
		{[][]string{{"b", "a"}, {"c", "a"}}, [][]int{{1, 0}, {2, 0}}},
		{[][]string{{"c", "a"}, {"b", "a"}}, [][]int{{2, 0}, {1, 0}}},
		{[][]string{{"z"}}, [][]int{{0}}},
		{[][]string{{"z", "z", "z"}, {}, {"z"}}, [][]int{{0, 0, 0}, {}, {0}}},
		{[][]string{{"b", "b", "c"}, {"a", "a"}}, [][]int{{1, 1, 2}, {0, 0}}},
		{[][]string{{"a", ""}, {"", "a"}}, [][]int{{1, 0}, {0, 1}}},
		{[][]string{{"aa", "a", "b", "ab", "a "}}, [][]int{{2, 0, 4, 3, 1}}},
		{[][]string{{"a", "B", "A", "b"}}, [][]int{{2, 1, 0, 3}}},
		{[][]string{{"10", "9", "1"}}, [][]int{{1, 2, 0}}},
		{[][]string{{"é", "z", "\xff", "\x80", "\x7f", "\U00010000", "\uffff"}}, [][]int{{3, 0, 6, 2, 1, 5, 4}}},
		{[][]string{{"a\x00", "a", "\x00", "a\x00\x00"}}, [][]int{{2, 1, 0, 3}}},
	} {
		if ids := Ids(c.lists...); !slices.EqualFunc(ids, c.want, slices.Equal) {
			t.Errorf("Ids(%q): %v, not %v", c.lists, ids, c.want)
		}
	}
}

// unlikeAhead counts, text by text, the unlike ones of all the lists that stand ahead of s.
func unlikeAhead(s string, lists [][]string) int {
	ahead := map[string]int{}
	for _, l := range lists {
		for _, other := range l {
			if strings.Compare(other, s) < 0 {
				ahead[other]++
			}
		}
	}
	return len(ahead)
}

// P3.2, P3.3: all short lists, two by two: each number is counted, and is the same just if the texts are.
func TestIdsOfShortLists(t *testing.T) {
	some := shortLists([]string{"", "a", "ab", "b", "\xff"}, 3)
	for _, a := range some {
		for _, b := range some {
			lists := [][]string{a, b}
			ids := Ids(lists...)
			if len(ids) != 2 || len(ids[0]) != len(a) || len(ids[1]) != len(b) {
				t.Fatalf("Ids(%q): %v", lists, ids)
			}
			texts, numbers := slices.Concat(a, b), slices.Concat(ids...)
			for i, s := range texts {
				if numbers[i] != unlikeAhead(s, lists) {
					t.Fatalf("Ids(%q): %v, %q has another number", lists, ids, s)
				}
				for j, other := range texts {
					if (numbers[i] == numbers[j]) != (s == other) {
						t.Fatalf("Ids(%q): %v, of %q and %q", lists, ids, s, other)
					}
				}
			}
		}
	}
}

// R3: the lists stay as they are, none behind them is read or written, and no two answers share memory.
func TestIdsLeavesLists(t *testing.T) {
	all := []string{"c", "a", "b", "a", "0"}
	was := slices.Clone(all)
	ids := Ids(all[:2], all[:4], all[2:4], all[:0])
	if !slices.EqualFunc(ids, [][]int{{2, 0}, {2, 0, 1, 0}, {1, 0}, {}}, slices.Equal) {
		t.Errorf("Ids: %v", ids)
	}
	if !slices.Equal(all, was) {
		t.Errorf("Ids changed %q to %q", was, all)
	}
	one := Ids(all[:4])
	if !slices.Equal(one[0], []int{2, 0, 1, 0}) || !slices.Equal(all, was) {
		t.Errorf("Ids of one list: %v, of %q", one, all)
	}
	ids[0] = append(ids[0], 7)
	ids[0][0] = 9
	if !slices.EqualFunc(ids[1:], [][]int{{2, 0, 1, 0}, {1, 0}, {}}, slices.Equal) {
		t.Errorf("lists share memory: %v", ids)
	}
	if again := Ids(all[:2]); !slices.Equal(again[0], []int{1, 0}) {
		t.Errorf("Ids kept what it was told: %v", again)
	}
}

// A text as long as one may be is cut, numbered and joined.
func TestLongText(t *testing.T) {
	const n = 1 << 18
	s := strings.Repeat("ab *", n)
	l := Cut(s)
	if len(l) != 3*n || l[0] != "ab" || l[3*n-1] != "*" || Join(l) != s {
		t.Fatalf("%d tokens", len(l))
	}
	ids := Ids(l, l[1:])
	for i, want := range []int{2, 0, 1} {
		if ids[0][i] != want || ids[0][3*n-3+i] != want || i > 0 && ids[1][i-1] != want {
			t.Errorf("token %d: %d, %d, not %d", i, ids[0][i], ids[0][3*n-3+i], want)
		}
	}
	if one := strings.Repeat("a", 1<<20); len(Cut(one)) != 1 || Cut(one)[0] != one {
		t.Error("one long word is cut")
	}
	if marks := strings.Repeat("*", 1<<20); len(Cut(marks)) != 1<<20 || Join(Cut(marks)) != marks {
		t.Error("long marks are not cut one by one")
	}
}
