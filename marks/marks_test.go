package marks

import (
	"math"
	"regexp"
	"slices"
	"strconv"
	"strings"
	"testing"

	"emendation/api"
	"emendation/lines"
	"emendation/token"
	"emendation/weave"
)

// names are what the sides are called in most tests.
var names = Sides{Ours: "us", Base: "old", Theirs: "them"}

// some are lines, one a word.
func some(s string) []string { return strings.Fields(s) }

// of is a line of so many of one byte.
func of(head string, n int) string { return strings.Repeat(head, n) }

// sizeByWords is a size in the chapter's words.
func sizeByWords(least int, l ...[]string) int {
	size := api.MinMark
	if least > size {
		size = least
	}
	for _, line := range slices.Concat(l...) {
		for _, head := range []string{"<", "|", "=", ">"} {
			if n := len(line) - len(strings.TrimLeft(line, head)) + 1; n > size {
				size = n
			}
		}
	}
	if size > api.MaxMark {
		size = api.MaxMark
	}
	return size
}

// heldByWords is a size from 1 to MaxMark.
func heldByWords(size int) int {
	switch {
	case size < 1:
		return 1
	case size > api.MaxMark:
		return api.MaxMark
	}
	return size
}

// regionByWords is a clash as lines, in the chapter's words.
func regionByWords(size int, s Sides, ours, base, theirs []string) []string {
	size = heldByWords(size)
	behind := func(name string) string {
		if name == "" {
			return ""
		}
		return " " + name
	}
	l := []string{of("<", size) + behind(s.Ours)}
	l = append(l, ours...)
	l = append(l, of("|", size)+behind(s.Base))
	l = append(l, base...)
	l = append(l, of("=", size))
	l = append(l, theirs...)
	return append(l, of(">", size)+behind(s.Theirs))
}

// mergeByWords is three lists merged, in the chapter's words, with something else in the place of each clash.
func mergeByWords(base, ours, theirs []string, clash func(ours, base, theirs []string) []string) ([]string, int) {
	ids := token.Ids(base, ours, theirs)
	var l []string
	n := 0
	for _, c := range weave.Chunks(ids[0], ids[1], ids[2]) {
		switch c.Outcome {
		case weave.Same, weave.Theirs:
			l = append(l, theirs[c.Theirs.From:c.Theirs.To]...)
		case weave.Ours, weave.Both:
			l = append(l, ours[c.Ours.From:c.Ours.To]...)
		case weave.Clash:
			l = append(l, clash(ours[c.Ours.From:c.Ours.To], base[c.Base.From:c.Base.To], theirs[c.Theirs.From:c.Theirs.To])...)
			n++
		}
	}
	return l, n
}

// patterns are what a marker of a size looks like, made with each of the heads.
func patterns(size int) []*regexp.Regexp {
	var l []*regexp.Regexp
	for _, head := range []string{"<", `\|`, "=", ">"} {
		l = append(l, regexp.MustCompile(`\A`+head+`{`+strconv.Itoa(size)+`}(\z| )`))
	}
	return l
}

// chooseByWords is one side chosen of lines, in the chapter's words.
func chooseByWords(markers []*regexp.Regexp, l []string, side int) ([]string, api.Errno) {
	if side != 1 && side != 2 && side != 3 {
		return nil, api.ErrArg
	}
	var kept []string
	order := 0 // how many markers stand ahead
	for _, line := range l {
		head := slices.IndexFunc(markers, func(p *regexp.Regexp) bool { return p.MatchString(line) })
		switch {
		case head < 0 && (order%4 == 0 || order%4 == side):
			kept = append(kept, line)
		case head >= 0 && head != order%4:
			return nil, api.ErrForm
		case head >= 0:
			order++
		}
	}
	if order%4 != 0 {
		return nil, api.ErrForm
	}
	return kept, api.OK
}

// shortLists are all lists of at most n of some lines.
func shortLists(lines []string, n int) [][]string {
	lists := [][]string{nil}
	for from := 0; len(lists[from]) < n; from++ {
		for _, s := range lines {
			lists = append(lists, append(slices.Clone(lists[from]), s))
		}
	}
	return lists
}

// mixed are numbers without an order to be seen, the same in every run.
func mixed(n, below int, seed uint64) []int {
	l := make([]int, n)
	for i := range l {
		seed = seed*6364136223846793005 + 1442695040888963407
		l[i] = int(seed>>33) % below
	}
	return l
}

// oddLines are lines among which markers of many sizes are.
func oddLines(n, below int, seed uint64) []string {
	heads := []string{"<", "|", "=", ">", "x", "-"}
	l := make([]string, n)
	for i, k := range mixed(n, below, seed) {
		l[i] = of(heads[k%len(heads)], k/len(heads)%11) + []string{"", " a", "a", " "}[k%4]
	}
	return l
}

// edited is a list with some edits here and there.
func edited(l []string, edits int, seed uint64) []string {
	l = slices.Clone(l)
	for n, at := range mixed(edits, len(l), seed) {
		at = min(at, len(l))
		put := of("=", n%10) + strconv.Itoa(int(seed)%2)
		switch {
		case n%3 == 0 || at == len(l):
			l = slices.Insert(l, at, put)
		case n%3 == 1:
			l = slices.Delete(l, at, at+1)
		default:
			l[at] = put
		}
	}
	return l
}

// P6.1: sizes, as the chapter names them.
func TestSize(t *testing.T) {
	for _, c := range []struct {
		name  string
		least int
		l     [][]string
		want  int
	}{
		{"of no lists", 0, nil, 7},
		{"of empty lists", 0, [][]string{nil, {}}, 7},
		{"of an empty line", 0, [][]string{{""}}, 7},
		{"of a negative least", math.MinInt, nil, 7},
		{"least below MinMark", 6, nil, 7},
		{"least MinMark", 7, nil, 7},
		{"least above MinMark", 8, nil, 8},
		{"least at MaxMark", 1000, nil, 1000},
		{"least above MaxMark", 1001, nil, 1000},
		{"greatest least", math.MaxInt, nil, 1000},
		{"the chapter's example", 0, [][]string{{"=======x"}}, 8},
		{"a run below the least", 0, [][]string{{"======"}}, 7},
		{"a run as the least", 7, [][]string{{"======="}}, 8},
		{"a run one below the least", 8, [][]string{{"======="}}, 8},
		{"a run of <", 0, [][]string{{"<<<<<<<<"}}, 9},
		{"a run of |", 0, [][]string{{"||||||||"}}, 9},
		{"a run of >", 0, [][]string{{">>>>>>>> a"}}, 9},
		{"runs of other bytes", 0, [][]string{{"--------", "########", "++++++++", "        ", "aaaaaaaaa", "~~~~~~~~~", "/////////"}}, 7},
		{"not at the beginning", 0, [][]string{{" ========", "a<<<<<<<<<", "\t>>>>>>>>>"}}, 7},
		{"two runs in one line", 0, [][]string{{"<<<<<<<<===========", "<|<<<<<<<<<<<"}}, 9},
		{"the longest of a list", 0, [][]string{{"=======", "<<<<<<<<<", "||||||||"}}, 10},
		{"the longest of all lists", 0, [][]string{{"a", ">>>>>>>"}, nil, {"<<<<<<<<<<<<"}, {"=========="}}, 13},
		{"the first line of the last list", 3, [][]string{{}, {"|||||||||", "b"}}, 10},
		{"a run below MaxMark", 0, [][]string{{of("<", 998)}}, 999},
		{"one more is MaxMark", 0, [][]string{{of("<", 999)}}, 1000},
		{"a run of MaxMark", 0, [][]string{{of("<", 1000)}}, 1000},
		{"a run above MaxMark", 0, [][]string{{of("<", 5000)}}, 1000},
		{"a line with line ends", 0, [][]string{{"a\n<<<<<<<<", "=======\n======"}}, 8},
		{"bytes that are no text", 0, [][]string{{"\xff<<<<<<<<", "<<<<<<<\xff", "\x00"}}, 8},
	} {
		if n := Size(c.least, c.l...); n != c.want {
			t.Errorf("Size %s: %d, not %d", c.name, n, c.want)
		}
	}
}

// P6.1: every byte as a head, and lines and leasts of many kinds.
func TestSizeByWords(t *testing.T) {
	for c := range 256 {
		line := of(string([]byte{byte(c)}), 20)
		want := 7
		if strings.Contains("<|=>", line[:1]) {
			want = 21
		}
		if n := Size(0, []string{line}); n != want {
			t.Errorf("Size of twenty bytes %d: %d, not %d", c, n, want)
		}
	}
	for seed := range uint64(300) {
		least := int(seed%20) - 5
		a, b, c := oddLines(2, 600, seed), oddLines(1, 600, seed+1), oddLines(3, 600, seed+2)
		if n, want := Size(least, a, b, c), sizeByWords(least, a, b, c); n != want {
			t.Fatalf("Size(%d, %q, %q, %q): %d, not %d", least, a, b, c, n, want)
		}
	}
}

// P6.1: clashes as lines, as the chapter names them.
func TestRegion(t *testing.T) {
	for _, c := range []struct {
		name               string
		size               int
		s                  Sides
		ours, base, theirs []string
		want               []string
	}{
		{"of nothing", 7, Sides{}, nil, nil, nil,
			[]string{"<<<<<<<", "|||||||", "=======", ">>>>>>>"}},
		{"one line each", 7, names, some("a"), some("b"), some("c"),
			[]string{"<<<<<<< us", "a", "||||||| old", "b", "=======", "c", ">>>>>>> them"}},
		{"some lines each", 3, names, some("a b"), some("c"), some("d e f"),
			[]string{"<<< us", "a", "b", "||| old", "c", "===", "d", "e", "f", ">>> them"}},
		{"ours without a name", 2, Sides{Base: "b", Theirs: "c"}, nil, nil, nil,
			[]string{"<<", "|| b", "==", ">> c"}},
		{"the base without a name", 2, Sides{Ours: "a", Theirs: "c"}, nil, nil, nil,
			[]string{"<< a", "||", "==", ">> c"}},
		{"theirs without a name", 2, Sides{Ours: "a", Base: "b"}, nil, nil, nil,
			[]string{"<< a", "|| b", "==", ">>"}},
		{"names as they are", 1, Sides{Ours: " a ", Base: "\n", Theirs: "> x\r\nz\xff"}, nil, nil, nil,
			[]string{"<  a ", "| \n", "=", "> > x\r\nz\xff"}},
		{"lines as they are", 1, Sides{}, []string{"", "<"}, []string{" = "}, []string{"a\nb", "\xff"},
			[]string{"<", "", "<", "|", " = ", "=", "a\nb", "\xff", ">"}},
		{"of no size", 0, names, nil, nil, nil, []string{"< us", "| old", "=", "> them"}},
		{"of a size below", math.MinInt, names, nil, nil, nil, []string{"< us", "| old", "=", "> them"}},
		{"of MaxMark", 1000, names, nil, nil, nil,
			[]string{of("<", 1000) + " us", of("|", 1000) + " old", of("=", 1000), of(">", 1000) + " them"}},
		{"of a size above", 1001, names, nil, nil, nil,
			[]string{of("<", 1000) + " us", of("|", 1000) + " old", of("=", 1000), of(">", 1000) + " them"}},
		{"of the greatest size", math.MaxInt, Sides{}, nil, nil, some("c"),
			[]string{of("<", 1000), of("|", 1000), of("=", 1000), "c", of(">", 1000)}},
	} {
		if l := Region(c.size, c.s, c.ours, c.base, c.theirs); !slices.Equal(l, c.want) {
			t.Errorf("Region %s: %q, not %q", c.name, l, c.want)
		}
	}
}

// P6.1: every size is held from 1 to MaxMark, and no other.
func TestRegionOfEverySize(t *testing.T) {
	for size := -3; size < 1010; size++ {
		want := regionByWords(size, names, some("a"), nil, some("c"))
		if l := Region(size, names, some("a"), nil, some("c")); !slices.Equal(l, want) {
			t.Fatalf("Region of size %d: %q", size, l)
		}
	}
}

// P6.2: lines merged, as the chapter names them.
func TestMerge(t *testing.T) {
	for _, c := range []struct {
		name               string
		size               int
		base, ours, theirs string
		want               []string
		clashes            int
	}{
		{"nothing", 7, "", "", "", nil, 0},
		{"all alike", 7, "a b", "a b", "a b", some("a b"), 0},
		{"ours changed", 7, "a b c", "a x c", "a b c", some("a x c"), 0},
		{"theirs changed", 7, "a b c", "a b c", "a x c", some("a x c"), 0},
		{"both changed alike", 7, "a b c", "a x c", "a x c", some("a x c"), 0},
		{"both, far from one another", 7, "a b c", "x b c", "a b y", some("x b y"), 0},
		{"ours took some, theirs put some", 7, "a b c d", "a c d", "a b c d e", some("a c d e"), 0},
		{"a clash", 3, "a b c", "a x c", "a y c",
			[]string{"a", "<<< us", "x", "||| old", "b", "===", "y", ">>> them", "c"}, 1},
		{"a clash of new ones", 3, "", "x", "y z",
			[]string{"<<< us", "x", "||| old", "===", "y", "z", ">>> them"}, 1},
		{"taken against changed", 1, "a b", "a", "a c",
			[]string{"a", "< us", "| old", "b", "=", "c", "> them"}, 1},
		{"two clashes, and what each side did", 2, "a b c d e", "x b C d y", "z b c d w",
			[]string{"<< us", "x", "|| old", "a", "==", "z", ">> them", "b", "C", "d", "<< us", "y", "|| old", "e", "==", "w", ">> them"}, 2},
		{"lines that look like markers", 2, "<< b", "<< ||", "<< >>",
			[]string{"<<", "<< us", "||", "|| old", "b", "==", ">>", ">> them"}, 1},
		{"a size below", -9, "", "x", "y", []string{"< us", "x", "| old", "=", "y", "> them"}, 1},
		{"a size above", 1001, "", "x", "y",
			[]string{of("<", 1000) + " us", "x", of("|", 1000) + " old", of("=", 1000), "y", of(">", 1000) + " them"}, 1},
	} {
		l, n := Merge(c.size, names, some(c.base), some(c.ours), some(c.theirs))
		if !slices.Equal(l, c.want) || n != c.clashes {
			t.Errorf("Merge %s: %q, %d, not %q, %d", c.name, l, n, c.want, c.clashes)
		}
	}
}

// P6.2: lines are the same just if all their bytes are.
func TestMergeOfOddLines(t *testing.T) {
	for _, c := range []struct {
		name               string
		base, ours, theirs []string
		want               []string
		clashes            int
	}{
		{"an empty line is a line", []string{""}, nil, []string{"", "a"}, []string{"<", "|", "", "=", "", "a", ">"}, 1},
		{"spaces count", []string{"a"}, []string{"a "}, []string{" a"}, []string{"<", "a ", "|", "a", "=", " a", ">"}, 1},
		{"great letters are others", []string{"a"}, []string{"A"}, []string{"a"}, []string{"A"}, 0},
		{"bytes that are no text", []string{"\xff", "a"}, []string{"\xff", "b"}, []string{"\xfe", "a"},
			[]string{"<", "\xff", "b", "|", "\xff", "a", "=", "\xfe", "a", ">"}, 1},
		{"the same ones side by side", []string{"", "", ""}, []string{"", ""}, []string{"", "", ""}, []string{"", ""}, 0},
		{"lines with line ends", []string{"a\nb"}, []string{"a", "b"}, []string{"a\nb"}, []string{"a", "b"}, 0},
	} {
		l, n := Merge(1, Sides{}, c.base, c.ours, c.theirs)
		if !slices.Equal(l, c.want) || n != c.clashes {
			t.Errorf("Merge, %s: %q, %d, not %q, %d", c.name, l, n, c.want, c.clashes)
		}
	}
}

// P6.3: one side chosen, as the chapter names it.
func TestChoose(t *testing.T) {
	clash := []string{"a", "<< us", "x", "|| old", "b", "==", "y", "z", ">> them", "c"}
	for _, c := range []struct {
		name string
		size int
		l    []string
		want [3][]string
	}{
		{"nothing", 7, nil, [3][]string{}},
		{"no clash", 7, some("a b"), [3][]string{some("a b"), some("a b"), some("a b")}},
		{"a clash", 2, clash, [3][]string{some("a x c"), some("a b c"), some("a y z c")}},
		{"two clashes side by side", 2, slices.Concat(clash[1:9], clash[1:9]),
			[3][]string{some("x x"), some("b b"), some("y z y z")}},
		{"a clash of nothing", 1, some("< | = >"), [3][]string{}},
		{"markers without names", 3, some("<<< x ||| === y >>>"), [3][]string{some("x"), nil, some("y")}},
		{"a name behind the third one", 2, []string{"<<", "x", "||", "== a", "y", ">>"}, [3][]string{some("x"), nil, some("y")}},
		{"a space alone behind", 2, []string{"<< ", "x", "|| ", "== ", "y", ">>  "}, [3][]string{some("x"), nil, some("y")}},
		{"of another size", 3, clash, [3][]string{clash, clash, clash}},
		{"of no size", 0, some("< x | b = y >"), [3][]string{some("x"), some("b"), some("y")}},
		{"of a size below", math.MinInt, some("< x | b = y >"), [3][]string{some("x"), some("b"), some("y")}},
		{"of a size above", math.MaxInt, Region(1000, names, some("x"), some("b"), some("y")), [3][]string{some("x"), some("b"), some("y")}},
		{"lines that are no markers", 2,
			[]string{"<", "<<<", "<<a", "<<\t", "<<\n", "<<<<", " <<", "a <<", ">>|", "", "=", "===", "<=", "<< us", "|||", "||", "==a", "==", "<<<", ">> x"},
			[3][]string{
				{"<", "<<<", "<<a", "<<\t", "<<\n", "<<<<", " <<", "a <<", ">>|", "", "=", "===", "<=", "|||"},
				{"<", "<<<", "<<a", "<<\t", "<<\n", "<<<<", " <<", "a <<", ">>|", "", "=", "===", "<=", "==a"},
				{"<", "<<<", "<<a", "<<\t", "<<\n", "<<<<", " <<", "a <<", ">>|", "", "=", "===", "<=", "<<<"},
			}},
		{"markers with line ends in them", 2, []string{"<< a\nb", "x", "|| \n", "b", "==", "y", ">> \r\n>>"},
			[3][]string{some("x"), some("b"), some("y")}},
	} {
		for i, want := range c.want {
			if l, e := Choose(c.size, c.l, i+1); !slices.Equal(l, want) || e != api.OK {
				t.Errorf("Choose side %d of %s: %q, %d, not %q", i+1, c.name, l, e, want)
			}
		}
	}
}

// P6.3: sides that are none, and markers out of order; a wrong side is told first.
func TestChooseErrors(t *testing.T) {
	for _, side := range []int{0, 4, -1, 5, math.MinInt, math.MaxInt} {
		for _, l := range [][]string{nil, some("a"), some("< x | b = y >"), some("< <"), some(">")} {
			if out, e := Choose(1, l, side); len(out) != 0 || e != api.ErrArg {
				t.Errorf("Choose side %d of %q: %q, %d", side, l, out, e)
			}
		}
	}
	for _, l := range []string{
		"<", "|", "=", ">", "a <", "a >", "< a", "< |", "< | =", "< = >", "< | >", "| = >", "< < | = >",
		"< | | = >", "< | = = >", "< | = > >", "< | = > <", "< | = > < | =", "> = | <", "< = | >", "| < = >",
		"a < b | c = d", "a < b | c = d > e < f", "< | = <", "< a | b = c > |",
	} {
		for side := 1; side <= 3; side++ {
			if out, e := Choose(1, some(l), side); len(out) != 0 || e != api.ErrForm {
				t.Errorf("Choose side %d of %q: %q, %d", side, l, out, e)
			}
		}
	}
}

// P6.3: all short lists of markers, other lines and longer markers, of each side.
func TestChooseByWords(t *testing.T) {
	markers := patterns(2)
	hold := func(l []string) {
		t.Helper()
		for side := 0; side <= 4; side++ {
			out, e := Choose(2, l, side)
			if want, also := chooseByWords(markers, l, side); !slices.Equal(out, want) || e != also {
				t.Fatalf("Choose(2, %q, %d): %q, %d, not %q, %d", l, side, out, e, want, also)
			}
		}
	}
	for _, l := range shortLists([]string{"<<", "|| b", "==", ">> ", "a", "<<<"}, 6) {
		hold(l)
	}
	for _, l := range shortLists(shortTexts("<=> a", 3), 2) {
		hold(l)
		hold(slices.Concat([]string{"<<"}, l, []string{"||", "==", ">>"}))
		hold(slices.Concat([]string{"<<", "||", "=="}, l, []string{">>"}))
	}
}

// shortTexts are all texts of at most n bytes of some.
func shortTexts(bytes string, n int) []string {
	short := []string{""}
	for from := 0; len(short[from]) < n; from++ {
		for i := range len(bytes) {
			short = append(short, short[from]+bytes[i:i+1])
		}
	}
	return short
}

// holdMerge holds what is merged against the chapter's words, and each side chosen back of it.
func holdMerge(t *testing.T, size int, s Sides, base, ours, theirs []string) int {
	t.Helper()
	l, n := Merge(size, s, base, ours, theirs)
	region := func(ours, base, theirs []string) []string { return regionByWords(size, s, ours, base, theirs) }
	if want, clashes := mergeByWords(base, ours, theirs, region); !slices.Equal(l, want) || n != clashes {
		t.Fatalf("Merge(%d, %q, %q, %q, %q): %q, %d, not %q, %d", size, s, base, ours, theirs, l, n, want, clashes)
	}
	sides := []func(ours, base, theirs []string) []string{
		func(ours, _, _ []string) []string { return ours },
		func(_, base, _ []string) []string { return base },
		func(_, _, theirs []string) []string { return theirs },
	}
	for i, side := range sides {
		want, _ := mergeByWords(base, ours, theirs, side)
		if out, e := Choose(size, l, i+1); !slices.Equal(out, want) || e != api.OK {
			t.Fatalf("Choose(%d, %q, %d): %q, %d, not %q", size, l, i+1, out, e, want)
		}
	}
	return n
}

// P6.2, P6.4: all short lists, three by three, with lines that would be markers of a lesser size.
func TestShortLists(t *testing.T) {
	for _, kind := range []struct {
		lines []string
		n     int
	}{
		{some("a b"), 4},
		{[]string{"=======", "<<<<<<< a", ""}, 3},
		{[]string{"||||||||", ">>>>>>>> ", "<<<<<<<", "<<<<<<<<x"}, 2},
	} {
		lists := shortLists(kind.lines, kind.n)
		for _, base := range lists {
			for _, ours := range lists {
				for _, theirs := range lists {
					holdMerge(t, Size(0, base, ours, theirs), names, base, ours, theirs)
				}
			}
		}
	}
}

// P6.4: edited lists, with names of many kinds: each side is chosen back; the sides exchanged the same comes, exchanged.
func TestEditedLists(t *testing.T) {
	called := []string{"", " ", "<", "=======", ">>>>>>>>", "a b", "\xff", "|||||||||||| x", strings.Repeat("n", 300)}
	clean := 0
	for seed := range uint64(600) {
		base := oddLines(40, 20+int(seed), seed)
		ours, theirs := edited(base, int(seed%9), seed+1), edited(base, int(seed%7), seed+12)
		s := Sides{called[seed%9], called[seed/9%9], called[seed/81%9]}
		size := Size(int(seed%13), base, ours, theirs)
		n := holdMerge(t, size, s, base, ours, theirs)
		back := Sides{s.Theirs, s.Base, s.Ours}
		if e := holdMerge(t, size, back, base, theirs, ours); e != n {
			t.Fatalf("of %q, %q, %q: %d clashes, exchanged %d", base, ours, theirs, n, e)
		}
		l, _ := Merge(size, s, base, ours, theirs)
		e, _ := Merge(size, back, base, theirs, ours)
		for side := 1; side <= 3; side++ {
			a, _ := Choose(size, l, side)
			if b, _ := Choose(size, e, 4-side); !slices.Equal(a, b) {
				t.Fatalf("of %q, %q, %q: side %d %q, exchanged %q", base, ours, theirs, side, a, b)
			}
		}
		if n == 0 {
			clean++
		}
	}
	if clean < 50 || clean > 550 {
		t.Errorf("%d of 600 are clean: the lists try too little", clean)
	}
}

// P6.4: with one side the base what comes is the other side's, with both alike that; without a clash.
func TestOneSide(t *testing.T) {
	for seed := range uint64(100) {
		base := oddLines(30, 50, seed)
		side := edited(base, int(seed%12), seed+1)
		for _, c := range [][2][]string{{side, base}, {base, side}, {side, side}} {
			if l, n := Merge(7, names, base, c[0], c[1]); !slices.Equal(l, side) || n != 0 {
				t.Fatalf("of %q, %q, %q: %q, %d", base, c[0], c[1], l, n)
			}
		}
	}
}

// P6.4: names with line ends are laid as they are, and a marker is one line with them.
func TestNamesWithLineEnds(t *testing.T) {
	s := Sides{Ours: "a\nb", Base: "\r\n", Theirs: "\n>>>>>>>\n"}
	want := []string{"<<<<<<< a\nb", "x", "||||||| \r\n", "=======", "y", ">>>>>>> \n>>>>>>>\n"}
	if l, n := Merge(7, s, nil, some("x"), some("y")); !slices.Equal(l, want) || n != 1 {
		t.Errorf("Merge: %q, %d", l, n)
	}
}

// P6.4: what was merged is a text, and of this text's lines the sides are chosen back too.
func TestOfAText(t *testing.T) {
	base, ours, theirs := some("a ======= c"), some("a ======== c"), some("a <<<<<<< c d")
	size := Size(0, base, ours, theirs)
	l, n := Merge(size, names, base, ours, theirs)
	if size != 9 || n != 1 {
		t.Fatalf("size %d, merged %q, %d", size, l, n)
	}
	text := lines.Join(l, true)
	read, _ := lines.Split(text)
	for i, want := range [][]string{some("a ======== c d"), some("a ======= c d"), some("a <<<<<<< c d")} {
		if out, e := Choose(size, read, i+1); !slices.Equal(out, want) || e != api.OK {
			t.Errorf("side %d of %q: %q, %d", i+1, text, out, e)
		}
	}
}

// P6.4: the greatest size that is no line's own.
func TestGreatestSize(t *testing.T) {
	for _, n := range []int{998, 999, 1001, 1002} {
		for _, head := range []string{"<", "|", "=", ">"} {
			line := of(head, n)
			base, ours, theirs := some("a"), []string{line, line + " x"}, []string{line + "b", line}
			size := Size(0, base, ours, theirs)
			if size != min(n+1, 1000) {
				t.Fatalf("Size of a run of %d: %d", n, size)
			}
			holdMerge(t, size, names, base, ours, theirs)
		}
	}
}

// R3: the lists stay as they are, nothing behind them is read or written, and no answer shares memory with them.
func TestListsStay(t *testing.T) {
	all := some("a b c a x c a y c < u | v = w > <<<<<<<<<< >")
	was := slices.Clone(all)
	base, ours, theirs, clash, behind := all[:3], all[3:6], all[6:9], all[9:16], all[16:]
	hold := func(name string, l, want []string) {
		t.Helper()
		if !slices.Equal(l, want) || !slices.Equal(all, was) {
			t.Errorf("%s: %q, not %q, of %q", name, l, want, all)
		}
		for i := range l {
			l[i] = "z"
		}
		if _ = append(l[:0:cap(l)], slices.Repeat(some("z"), cap(l))...); !slices.Equal(all, was) {
			t.Fatalf("%s shares memory: %q", name, all)
		}
	}
	for range 2 {
		l, _ := Merge(1, Sides{}, base, ours, theirs)
		hold("Merge", l, some("a < x | b = y > c"))
		l, _ = Merge(1, Sides{}, base, ours, base)
		hold("Merge of ours", l, ours)
		l, _ = Merge(1, Sides{}, base, base, theirs)
		hold("Merge of theirs", l, theirs)
		l, _ = Merge(1, Sides{}, base, base, base)
		hold("Merge of one", l, base)
		hold("Region", Region(1, Sides{}, base, ours, theirs), some("< a b c | a x c = a y c >"))
		hold("Region of nothing", Region(1, Sides{}, all[:0], all[:0], all[:0]), some("< | = >"))
		for side, want := range []string{"u", "v", "w"} {
			l, _ = Choose(1, clash, side+1)
			hold("Choose", l, some(want))
		}
		l, _ = Choose(1, base, 1)
		hold("Choose of no clash", l, base)
	}
	lists := [][]string{base, ours, behind}
	if n := Size(0, lists[:2]...); n != 7 || Size(0, behind[:0]) != 7 || Size(0, behind) != 11 {
		t.Errorf("Size read behind lists: %d", n)
	}
	if l, e := Choose(1, clash[:6], 1); len(l) != 0 || e != api.ErrForm {
		t.Errorf("Choose read behind a list: %q, %d", l, e)
	}
	if !slices.Equal(all, was) || !slices.Equal(lists[2], behind) {
		t.Errorf("changed: %q", all)
	}
}

// R1: great lists are merged, with many clashes of great markers, and chosen back.
func TestGreatLists(t *testing.T) {
	const n = 1 << 16
	base, ours, theirs := make([]string, n), make([]string, n), make([]string, n)
	for i := range n {
		line := strconv.Itoa(i)
		base[i], ours[i], theirs[i] = line, line, line
		if i%4 == 1 {
			ours[i], theirs[i] = line+"o", line+"t"
		}
	}
	l, clashes := Merge(1000, names, base, ours, theirs)
	if clashes != n/4 || len(l) != n+6*n/4 {
		t.Fatalf("%d lines, %d clashes", len(l), clashes)
	}
	for i, want := range [][]string{ours, base, theirs} {
		if out, e := Choose(1000, l, i+1); !slices.Equal(out, want) || e != api.OK {
			t.Errorf("side %d: %d lines, %d", i+1, len(out), e)
		}
	}
	long := of("=", 1<<22)
	if size := Size(0, []string{long}); size != 1000 {
		t.Errorf("Size of a long line: %d", size)
	}
	if out, e := Choose(1000, []string{long}, 1); !slices.Equal(out, []string{long}) || e != api.OK {
		t.Errorf("Choose of a long line: %d lines, %d", len(out), e)
	}
}
