package tests

import (
	"fmt"
	"slices"
	"testing"

	"loop.example/colophon/impl"
)

type lineRow struct {
	first, last, class int
}

// lineRows is the table of classes of lines, in the document's order.
func lineRows() []lineRow {
	return []lineRow{
		{10, 10, impl.LineBK}, {' ', ' ', impl.LineSP}, {160, 160, impl.LineGL}, {8203, 8203, impl.LineZW},
		{768, 879, impl.LineCM}, {8205, 8205, impl.LineCM}, {8234, 8238, impl.LineCM}, {8294, 8297, impl.LineCM},
		{'0', '9', impl.LineNU}, {1632, 1641, impl.LineNU}, {19968, 40959, impl.LineID},
		{'(', '(', impl.LineOP}, {'[', '[', impl.LineOP}, {'{', '{', impl.LineOP},
		{')', ')', impl.LineCL}, {']', ']', impl.LineCL}, {'}', '}', impl.LineCL},
		{'!', '!', impl.LineEX}, {'?', '?', impl.LineEX}, {'"', '"', impl.LineQU}, {'-', '-', impl.LineHY},
		{',', ',', impl.LineIS}, {'.', '.', impl.LineIS}, {':', ':', impl.LineIS}, {';', ';', impl.LineIS}, {'/', '/', impl.LineIS},
		{9, 9, impl.LineBA}, {173, 173, impl.LineBA},
	}
}

func lineRowOf(r int) int {
	for _, row := range lineRows() {
		if r >= row.first && r <= row.last {
			return row.class
		}
	}
	return impl.LineAL
}

// P4: Each letter has one class for its side, one for its lines, and a width.
func TestClassesOfLines(t *testing.T) {
	check := func(r int) {
		side, line, wide := impl.RuneBidi(r), impl.RuneLine(r), impl.RuneWide(r)
		if line != lineRowOf(r) {
			t.Errorf("letter %d: class %d, want %d", r, line, lineRowOf(r))
		}
		if side < 1 || side > 22 || line < 1 || line > 15 || wide < 0 || wide > 40 {
			t.Errorf("letter %d: %d %d %d", r, side, line, wide)
		}
		unseen := side == impl.BidiNSM || side == impl.BidiBN || side >= impl.BidiLRE || r == 10 || r == 13
		if (wide == 0) != unseen {
			t.Errorf("letter %d of class %d: width %d", r, side, wide)
		}
	}
	for r := -100; r < 42000; r++ {
		check(r)
	}
	for _, r := range []int{-1 << 63, -1 << 31, -1 << 32, 10 + 1<<32, 55296, 57343, 65536, 127462, 1114111, 1114112, 1 << 40, 1<<63 - 1} {
		check(r)
	}
}

func TestNumbersOfClassesOfLines(t *testing.T) {
	classes := []int{impl.LineAL, impl.LineNU, impl.LineSP, impl.LineBK, impl.LineGL, impl.LineZW, impl.LineCM, impl.LineOP, impl.LineCL, impl.LineEX, impl.LineQU, impl.LineHY, impl.LineIS, impl.LineBA, impl.LineID}
	same(t, "classes", classes, "[1 2 3 4 5 6 7 8 9 10 11 12 13 14 15]")
	same(t, "breaks", []int{impl.BreakNo, impl.BreakMay, impl.BreakMust}, "[0 1 2]")
}

type breakCase struct {
	text, want string
}

func checkBreaks(t *testing.T, cases []breakCase) {
	t.Helper()
	for _, c := range cases {
		same(t, fmt.Sprintf("%q", c.text), impl.BreaksOf(runesOf(c.text)), c.want)
	}
}

// What is said ahead of the rules: the end, what joins, and what goes with the letter ahead.
func TestBreaksAheadOfTheRules(t *testing.T) {
	checkBreaks(t, []breakCase{
		{"", "[]"}, {"a", "[2]"}, {" ", "[2]"}, {"\n", "[2]"}, {"\u0301", "[2]"}, {"\u4e00", "[2]"},
		// Joined, though a rule would part them.
		{"\r\n", "[0 2]"}, {"\u4e00\u0301\u4e00", "[0 1 2]"}, {" \u0301\u4e00", "[0 1 2]"}, {"\u200b\u0301\u4e00", "[0 1 2]"}, {"\u200b\u200d\u4e00", "[0 1 2]"},
		{"\u4e00\u200d\u4e00", "[0 1 2]"}, {"\U0001f1e6\U0001f1e7\U0001f1e8", "[0 0 2]"},
		// Not joined, but with the letter ahead.
		{"\u4e00\u2066\u4e00", "[0 1 2]"}, {"(\u2066\u4e00", "[0 0 2]"}, {"-\u202aa", "[0 1 2]"}, {"-\u202a1", "[0 0 2]"}, {"\u00a0\u2069\u4e00", "[0 0 2]"}, {"\"\u2066\u4e00", "[0 0 2]"},
		// As LineAL, where there is nothing to go with.
		{"\u0301a", "[0 2]"}, {"\u0301\u4e00", "[1 2]"}, {"\u20661", "[0 2]"}, {"\u2066(", "[0 2]"},
		{"a \u2066b", "[0 1 0 2]"}, {"a \u2066\u2067b", "[0 1 0 0 2]"}, {"( \u2066\u4e00", "[0 0 1 2]"}, {" \u2066 )", "[1 0 0 2]"},
		{"\n\u2066a", "[2 0 2]"}, {"\n\u0301a", "[2 0 2]"}, {"\n\u200da", "[2 0 2]"}, {"\n\u2066\u4e00", "[2 1 2]"},
		{"\u200b\u2066a", "[1 0 2]"}, {"\u200b\u2066\u4e00", "[1 1 2]"}, {"\u200b \u2066a", "[0 1 0 2]"}, {"\u200b \u0301\u4e00", "[0 0 1 2]"},
		// One behind the other, all of them with the first letter.
		{"\u4e00\u0301\u2066\u200d\u4e00", "[0 0 0 1 2]"}, {"(\u0301\u2066 \u4e00", "[0 0 0 0 2]"},
	})
}

// Each of the ten rules, and each ahead of those behind it.
func TestBreaksByTheRules(t *testing.T) {
	checkBreaks(t, []breakCase{
		// 1: behind what ends a line, ahead of anything.
		{"\na", "[2 2]"}, {"\n\n", "[2 2]"}, {"\n ", "[2 2]"}, {"\n\u200b", "[2 2]"}, {"\n)", "[2 2]"}, {"\n\u00a0", "[2 2]"}, {"\n\"", "[2 2]"}, {"\n\r\n", "[2 0 2]"},
		// 2: ahead of what ends a line, of a blank, and of what has no width.
		{"a\n", "[0 2]"}, {"\u4e00 ", "[0 2]"}, {"\u4e00\n", "[0 2]"}, {"\u4e00\u200b", "[0 2]"}, {"  \n", "[0 0 2]"}, {"\u200b ", "[0 2]"}, {"\u200b\u200b", "[0 2]"}, {" \u200b", "[0 2]"}, {"\u200b\n", "[0 2]"},
		// 3: behind what has no width, with blanks or without.
		{"\u200ba", "[1 2]"}, {"\u200b)", "[1 2]"}, {"\u200b !", "[0 1 2]"}, {"\u200b\u00a0", "[1 2]"}, {"\u200b  \"", "[0 0 1 2]"}, {"\u200b,", "[1 2]"}, {"(\u200b)", "[0 1 2]"},
		// 4: beside what glues.
		{"\u00a0\u4e00", "[0 2]"}, {"\u4e00\u00a0", "[0 2]"}, {"\u00a0-", "[0 2]"}, {" \u00a0", "[1 2]"}, {"\t\u00a0", "[1 2]"}, {"\u00ad\u00a0", "[1 2]"}, {"-\u00a0", "[1 2]"}, {"!\u00a0", "[0 2]"}, {"\u00a0\u00a0", "[0 2]"}, {"( \u00a0", "[0 0 2]"}, {",\u00a0", "[0 2]"},
		// 5: ahead of what closes, also behind blanks; a comma only without.
		{"\u4e00)", "[0 2]"}, {"\u4e00!", "[0 2]"}, {"\u4e00,", "[0 2]"}, {"\u4e00 )", "[0 0 2]"}, {"\u4e00 ?", "[0 0 2]"}, {"\u4e00 ,", "[0 1 2]"}, {" )", "[1 2]"}, {" !", "[1 2]"}, {"  ]", "[0 1 2]"}, {"\n )", "[2 0 2]"}, {"\n ,", "[2 1 2]"}, {"-}", "[0 2]"}, {"\t.", "[0 2]"}, {"a  :", "[0 0 1 2]"},
		// 6: behind what opens, with blanks or without.
		{"(\u4e00", "[0 2]"}, {"( \u4e00", "[0 0 2]"}, {"[  a", "[0 0 0 2]"}, {"{(", "[0 2]"}, {"( ,", "[0 0 2]"}, {"(a \u4e00", "[0 0 1 2]"},
		// 7: behind a blank.
		{" a", "[1 2]"}, {"a \"", "[0 1 2]"}, {"a -", "[0 1 2]"}, {"a \t", "[0 1 2]"}, {", 1", "[0 1 2]"}, {"1 (", "[0 1 2]"}, {"a  b", "[0 0 1 2]"},
		// 8: beside a quote, and ahead of a stroke.
		{"\u4e00\"", "[0 2]"}, {"\"\u4e00", "[0 2]"}, {"\"\"", "[0 2]"}, {"\u4e00-", "[0 2]"}, {"\u4e00\t", "[0 2]"}, {"\u4e00\u00ad", "[0 2]"}, {"--", "[0 2]"}, {"\t\t", "[0 2]"}, {"\"(", "[0 2]"},
		// 9: within words and numbers.
		{"ab", "[0 2]"}, {"a1", "[0 2]"}, {"1a", "[0 2]"}, {"12", "[0 2]"}, {"-1", "[0 2]"}, {",1", "[0 2]"}, {"/a", "[0 2]"}, {"a(", "[0 2]"}, {"1[", "[0 2]"}, {")a", "[0 2]"}, {"}1", "[0 2]"}, {"\u05d0\u0661", "[0 2]"},
		// 10: anywhere else.
		{"-a", "[1 2]"}, {"\u4e00a", "[1 2]"}, {"a\u4e00", "[1 2]"}, {"1\u4e00", "[1 2]"}, {"\u4e001", "[1 2]"}, {"\u4e00\u4e01", "[1 2]"}, {"\u4e00(", "[1 2]"}, {")(", "[1 2]"}, {")\u4e00", "[1 2]"}, {",\u4e00", "[1 2]"}, {",(", "[1 2]"}, {"!a", "[1 2]"}, {"!1", "[1 2]"}, {"!(", "[1 2]"}, {"?\u4e00", "[1 2]"}, {"\ta", "[1 2]"}, {"\t1", "[1 2]"}, {"\u00ad(", "[1 2]"}, {"-\u4e00", "[1 2]"}, {"-(", "[1 2]"},
	})
}

// countsAs is as what a letter counts, told from the document's words.
func countsAs(runes []int, at int) int {
	line := lineRowOf(runes[at])
	if line != impl.LineCM {
		return line
	}
	if at == 0 {
		return impl.LineAL
	}
	ahead := countsAs(runes, at-1)
	if ahead == impl.LineSP || ahead == impl.LineBK || ahead == impl.LineZW {
		return impl.LineAL
	}
	return ahead
}

// breakAt is what the place behind a letter is, told from the document's words.
func breakAt(runes []int, at int) int {
	const (
		AL, NU, SP, BK, GL, ZW = impl.LineAL, impl.LineNU, impl.LineSP, impl.LineBK, impl.LineGL, impl.LineZW
		OP, CL, EX, QU, HY, IS = impl.LineOP, impl.LineCL, impl.LineEX, impl.LineQU, impl.LineHY, impl.LineIS
	)
	if at == len(runes)-1 {
		return impl.BreakMust
	}
	a, b := countsAs(runes, at), countsAs(runes, at+1)
	if impl.ClusterAt(runes, at+1) != at+1 || lineRowOf(runes[at+1]) == impl.LineCM && a != SP && a != BK && a != ZW {
		return impl.BreakNo
	}
	s := 0
	for back := at; back >= 0 && s == 0; back-- {
		if c := countsAs(runes, back); c != SP {
			s = c
		}
	}
	in := func(class int, classes ...int) bool { return slices.Contains(classes, class) }
	switch {
	case a == BK:
		return impl.BreakMust
	case in(b, BK, SP, ZW):
		return impl.BreakNo
	case s == ZW:
		return impl.BreakMay
	case a == GL, b == GL && !in(a, SP, impl.LineBA, HY):
		return impl.BreakNo
	case in(b, CL, EX, IS) && a != SP, in(b, CL, EX) && s != 0, s == OP:
		return impl.BreakNo
	case a == SP:
		return impl.BreakMay
	case a == QU, b == QU, in(b, impl.LineBA, HY):
		return impl.BreakNo
	case in(a, AL, NU) && in(b, AL, NU), b == NU && in(a, HY, IS), a == IS && b == AL, in(a, AL, NU) && b == OP, a == CL && in(b, AL, NU):
		return impl.BreakNo
	}
	return impl.BreakMay
}

func checkBreaksByWords(t *testing.T, runes []int) {
	t.Helper()
	var want []int
	for at := range runes {
		want = append(want, breakAt(runes, at))
	}
	if got := impl.BreaksOf(runes); !slices.Equal(got, want) {
		t.Fatalf("%v: got %v, want %v", runes, got, want)
	}
}

// All texts of up to four letters, one of each class, with both kinds of LineCM and what joins.
func TestBreaksOfAllShortTexts(t *testing.T) {
	letters := []int{'a', '1', ' ', 10, 160, 8203, 768, lri, '(', ')', '!', '"', '-', ',', 9, 20000, 13, 127462}
	texts := [][]int{{}}
	for range 4 {
		var longer [][]int
		for _, text := range texts {
			for _, r := range letters {
				longer = append(longer, joined(text, []int{r}))
				checkBreaksByWords(t, longer[len(longer)-1])
			}
		}
		texts = longer
	}
}

func TestBreaksOfLongTexts(t *testing.T) {
	someTexts(1500, func(runes []int) { checkBreaksByWords(t, runes) })
	same(t, "as long as may be", len(impl.BreaksOf(repeated('a', impl.TextMax))), impl.TextMax)
}

// P21: A line ends where it must, never within a cluster, and never ahead of a blank.
func TestWhereLinesEnd(t *testing.T) {
	someTexts(1500, func(runes []int) {
		breaks := impl.BreaksOf(runes)
		if len(breaks) != len(runes) {
			t.Fatalf("%v: %v", runes, breaks)
		}
		starts := impl.ClusterStarts(runes)
		for at, what := range breaks {
			if (what == impl.BreakMust) != (at == len(runes)-1 || runes[at] == 10) {
				t.Fatalf("%v: %v at %d", runes, breaks, at)
			}
			if what != impl.BreakMay {
				continue
			}
			here, next := impl.RuneLine(runes[at]), impl.RuneLine(runes[at+1])
			word := here == impl.LineAL || here == impl.LineNU
			if !slices.Contains(starts, at+1) || next == impl.LineSP || next == impl.LineBK || word && (next == impl.LineCL || next == impl.LineIS) {
				t.Fatalf("%v: %v at %d", runes, breaks, at)
			}
		}
	})
}

// P22: Words may be parted at blanks, and nowhere within.
func TestWordsArePartedAtBlanks(t *testing.T) {
	word := []int{'a', 'Z', 1488, 1569, '0', '9', 1632, '+', '#', '<', 39, 13, 0, 1114111}
	for _, a := range word {
		for _, b := range word {
			same(t, "within", impl.BreaksOf([]int{a, b}), "[0 2]")
			same(t, "at a blank", impl.BreaksOf([]int{a, ' ', b}), "[0 1 2]")
			same(t, "behind others", impl.BreaksOf([]int{20000, '(', a, b, ' ', ' ', b}), "[1 0 0 0 0 1 2]")
		}
	}
}

// P23: Where lines may end is told in order, the end last.
func TestWordsTellPlaces(t *testing.T) {
	same(t, "words", impl.WordsOf(runesOf("a b-c, (d) e\n4")), "[2 4 7 11 13 14]")
	same(t, "one", impl.WordsOf(runesOf("a")), "[1]")
	same(t, "none", impl.WordsOf(nil), "[]")
	someTexts(500, func(runes []int) {
		var want []int
		for at := range runes {
			if breakAt(runes, at) != impl.BreakNo {
				want = append(want, at+1)
			}
		}
		got := impl.WordsOf(runes)
		same(t, "words", got, want)
		if len(runes) > 0 && got[len(got)-1] != len(runes) {
			t.Errorf("%v: %v does not end with all", runes, got)
		}
	})
}

func TestBreaksOfWrongLetters(t *testing.T) {
	for i, runes := range badLetters() {
		if len(impl.BreaksOf(runes)) != 0 || len(impl.WordsOf(runes)) != 0 {
			t.Errorf("case %d: %v %v", i, impl.BreaksOf(runes), impl.WordsOf(runes))
		}
	}
}
