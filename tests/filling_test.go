package tests

import (
	"fmt"
	"slices"
	"testing"

	"loop.example/colophon/impl"
)

const (
	least = -1 << 63
	most  = 1<<63 - 1
)

// isEmptyAtEnd says whether a letter is empty where it stands at the end, told from the document's words.
func isEmptyAtEnd(r int) bool {
	return r == ' ' || r == 10 || impl.RuneWide(r) == 0
}

// wideOf is how wide a line is: a letter that is not empty counts with all that stand ahead of it.
func wideOf(runes []int, wides []int, from int, to int) int {
	all, some := 0, 0
	for at := from; at < to; at++ {
		some += wides[at]
		if !isEmptyAtEnd(runes[at]) {
			all = some
		}
	}
	return all
}

// filled is letters that are filled into lines, their spans and the room of a line, and what is known of them then.
type filled struct {
	runes  []int
	list   spans
	wide   int
	wides  []int
	breaks []int
}

func filledOf(runes []int, list spans, wide int) filled {
	f := filled{runes: runes, list: list, wide: wide, wides: impl.WidesOf(runes, list)}
	for at := range runes {
		f.breaks = append(f.breaks, breakAt(runes, at))
	}
	return f
}

func (f filled) fits(from int, to int) bool {
	return wideOf(f.runes, f.wides, from, to) <= f.wide
}

// overMust says whether a line goes over a place at which one must end.
func (f filled) overMust(from int, to int) bool {
	return slices.Contains(f.runes[from:to-1], 10)
}

func (f filled) clusterEnds(to int) bool {
	return to == len(f.runes) || impl.ClusterAt(f.runes, to) == to
}

// greedy is the lines that are as full as can be: the longest that may be is tried first.
func (f filled) greedy() []int {
	var ends []int
	for from := 0; from < len(f.runes); from = ends[len(ends)-1] {
		end := 0
		for to := len(f.runes); to > from && end == 0; to-- {
			if f.breaks[to-1] != impl.BreakNo && !f.overMust(from, to) && f.fits(from, to) {
				end = to
			}
		}
		for to := len(f.runes); to > from && end == 0; to-- {
			if f.clusterEnds(to) && f.fits(from, to) {
				end = to
			}
		}
		for to := from + 1; end == 0; to++ {
			if f.clusterEnds(to) {
				end = to
			}
		}
		ends = append(ends, end)
	}
	return ends
}

func (f filled) costOf(from int, to int) int {
	if f.breaks[to-1] == impl.BreakMust {
		return 0
	}
	left := f.wide - wideOf(f.runes, f.wides, from, to)
	return left * left
}

// prefix is the best lines up to a place.
type prefix struct {
	ends []int
	cost int
	ok   bool
}

// best is the lines that cost least, the shorter first: of each place the best lines up to it, from those ahead.
func (f filled) best() []int {
	all := make([]prefix, len(f.runes)+1)
	all[0].ok = true
	for to := 1; to <= len(f.runes); to++ {
		if f.breaks[to-1] == impl.BreakNo {
			continue
		}
		for from := 0; from < to; from++ {
			if !all[from].ok || f.overMust(from, to) || !f.fits(from, to) {
				continue
			}
			p := prefix{joined(all[from].ends, []int{to}), all[from].cost + f.costOf(from, to), true}
			if old := all[to]; !old.ok || p.cost < old.cost || p.cost == old.cost && slices.Compare(p.ends, old.ends) < 0 {
				all[to] = p
			}
		}
	}
	if last := all[len(f.runes)]; last.ok {
		return last.ends
	}
	return f.greedy()
}

// fillable is letters of which words are made, with a few of all other kinds between.
func fillable(d *dice) []int {
	kinds := []int{'a', 'a', 'b', 'm', 'i', 1488, 1489, ' ', ' ', ' ', ' ', '1', '-', ',', 20000, '('}
	seldom, all := 3+d.below(30), sampleLetters()
	runes := make([]int, d.below(30))
	if d.below(4) == 0 {
		runes = make([]int, d.below(impl.TextMax+1))
	}
	for i := range runes {
		runes[i] = kinds[d.below(len(kinds))]
		if d.below(seldom) == 0 {
			runes[i] = all[d.below(len(all))]
		}
	}
	return runes
}

// spansFor is spans that are ok for so many letters, of sizes near to the one that all have.
func spansFor(count int, d *dice) spans {
	var list spans
	for at := 0; at < count && len(list) < impl.SpanMax && d.below(3) > 0; {
		from := at + d.below(count-at)
		to := from + 1 + d.below(count-from)
		list = append(list, span(from, to, 5+d.below(11), d.below(10)))
		at = to
	}
	return list
}

// someFilled hands on letters, spans and widths that are ok.
func someFilled(times int, each func(f filled, d *dice)) {
	d := dice(6)
	for range times {
		runes := fillable(&d)
		var list spans
		if d.below(2) == 0 {
			list = spansFor(len(runes), &d)
		}
		room := []int{10, 60, 150, 200, 2000}[d.below(5)]
		each(filledOf(runes, list, 10*d.below(room+1)), &d)
	}
}

// someEnds is ends of lines at places where they may be, or somewhere.
func someEnds(f filled, d *dice) []int {
	var ends []int
	seldom, anywhere := 1+d.below(6), d.below(4) == 0
	for at := range f.runes {
		what := f.breaks[at]
		if what == impl.BreakMust || (anywhere || what == impl.BreakMay) && d.below(seldom) == 0 {
			ends = append(ends, at+1)
		}
	}
	return ends
}

func TestNumbersOfFilling(t *testing.T) {
	same(t, "numbers", []int{impl.WideMax, impl.FillGreedy, impl.FillBest}, "[20000 0 1]")
}

// P29: A line is never wider than all its letters, and a letter more never makes it less wide.
func TestWideOfALine(t *testing.T) {
	for i, c := range []struct {
		text     string
		wides    []int
		from, to int
		want     int
	}{
		{"", nil, 0, 0, 0}, {"ab", []int{3, 4}, 0, 2, 7}, {"ab", []int{3, 4}, 1, 2, 4}, {"ab", []int{3, 4}, 0, 1, 3}, {"ab", []int{3, 4}, 1, 1, 0}, {"ab", []int{3, 4}, 2, 2, 0},
		{"a b ", []int{3, 4, 5, 6}, 0, 4, 12}, {"a b ", []int{3, 4, 5, 6}, 0, 3, 12}, {"a b ", []int{3, 4, 5, 6}, 0, 2, 3}, {" a", []int{3, 4}, 0, 2, 7},
		// Nothing but what is empty.
		{"   ", []int{3, 4, 5}, 0, 3, 0}, {" \n", []int{3, 4}, 0, 2, 0}, {"\u0301\u200d\u00ad\u2066\u202a\r", []int{1, 2, 3, 4, 5, 6}, 0, 6, 0},
		// Empty ones of all kinds at the end, whatever their widths, and within.
		{"a \n", []int{1, 2, 4}, 0, 3, 1}, {"a\n ", []int{1, 2, 4}, 0, 3, 1}, {"a\u0301", []int{1, 2}, 0, 2, 1}, {"a\u200b \u2069\u202c\r\n", []int{1, 2, 4, 8, 16, 32, 64}, 0, 7, 1},
		{"a\u200b \nb", []int{1, 2, 4, 8, 16}, 0, 5, 31}, {"a\t", []int{1, 2}, 0, 2, 3}, {"a\u00a0", []int{1, 2}, 0, 2, 3}, {"a,", []int{1, 2}, 0, 2, 3},
		{"abc", []int{0, impl.WideMax, 0}, 0, 3, impl.WideMax}, {"abc", []int{impl.WideMax, impl.WideMax, impl.WideMax}, 0, 3, 3 * impl.WideMax},
		// Wrong widths, also of letters that do not count.
		{"abc", []int{0, impl.WideMax + 1, 0}, 0, 3, 0}, {"abc", []int{1, -1, 1}, 0, 3, 0}, {"ab ", []int{1, 1, -1}, 0, 3, 0}, {"abc", []int{1, 1, impl.WideMax + 1}, 0, 2, 0}, {"abc", []int{-1, 1, 1}, 1, 2, 0}, {"ab", []int{most, 1}, 1, 2, 0}, {"ab", []int{least, 1}, 1, 2, 0},
		{"abc", []int{1, 1}, 0, 2, 0}, {"ab", []int{1, 1, 1}, 0, 2, 0}, {"ab", nil, 0, 2, 0}, {"", []int{1}, 0, 0, 0},
		// Lines that are not there.
		{"ab", []int{1, 1}, -1, 2, 0}, {"ab", []int{1, 1}, 0, 3, 0}, {"ab", []int{1, 1}, 2, 1, 0}, {"ab", []int{1, 1}, 3, 3, 0}, {"ab", []int{1, 1}, least, most, 0}, {"ab", []int{1, 1}, 0, most, 0}, {"ab", []int{1, 1}, most, least, 0},
	} {
		same(t, fmt.Sprint("case ", i), impl.LineWide(runesOf(c.text), c.wides, c.from, c.to), c.want)
	}
	for i, runes := range badLetters() {
		same(t, fmt.Sprint("letters ", i), impl.LineWide(runes, repeated(1, len(runes)), 0, 1), 0)
	}
	same(t, "all", impl.LineWide(repeated('a', impl.TextMax), repeated(impl.WideMax, impl.TextMax), 0, impl.TextMax), impl.TextMax*impl.WideMax)
}

func TestWideOfSomeLines(t *testing.T) {
	someFilled(700, func(f filled, d *dice) {
		wides := make([]int, len(f.runes))
		for i := range wides {
			wides[i] = d.below(1 + d.below(impl.WideMax+1))
		}
		from := d.below(len(f.runes) + 1)
		all, ahead := 0, 0
		for to := from; to <= len(f.runes); to++ {
			got := impl.LineWide(f.runes, wides, from, to)
			if got != wideOf(f.runes, wides, from, to) || got > all || got < ahead {
				t.Fatalf("%v %v, %d to %d: %d", f.runes, wides, from, to, got)
			}
			ahead = got
			if to < len(f.runes) {
				all += wides[to]
			}
		}
	})
}

type fillCase struct {
	text string
	wide int
	want string
}

func checkFill(t *testing.T, mode int, cases []fillCase) {
	t.Helper()
	for _, c := range cases {
		same(t, fmt.Sprintf("%q in %d", c.text, c.wide), impl.FillLines(runesOf(c.text), nil, c.wide, mode), c.want)
	}
}

// Each line is as full as can be.
func TestGreedyLines(t *testing.T) {
	checkFill(t, impl.FillGreedy, []fillCase{
		{"", 100, "[]"}, {"", 0, "[]"}, {"a", 100, "[1]"}, {"a", 99, "[1]"}, {"a", 0, "[1]"}, {"a", impl.WideMax, "[1]"},
		// Just as wide as there is room, and one less.
		{"aa bb cc", 460, "[6 8]"}, {"aa bb cc", 459, "[3 6 8]"}, {"aa bb cc", 720, "[8]"}, {"aa bb cc", 719, "[6 8]"}, {"aa bb cc", 200, "[3 6 8]"},
		// Blanks at the end need no room, at the beginning they do.
		{"aa      bb", 200, "[8 10]"}, {"   a", 280, "[4]"}, {"   a", 279, "[3 4]"}, {"   ", 0, "[3]"}, {"aa   ", 200, "[5]"}, {"a b\u0301 c", 260, "[5 6]"},
		// A word that is too wide is cut behind whole clusters, and what is left of it goes on with others.
		{"aaaaa b", 200, "[2 4 6 7]"}, {"aaaaa b", 260, "[2 4 7]"}, {"a bbbbb c", 260, "[2 4 6 9]"}, {"aaaa", 399, "[3 4]"}, {"aaaa", 199, "[1 2 3 4]"}, {"aaaa", 1, "[1 2 3 4]"}, {"mi", 160, "[1 2]"}, {"im", 160, "[1 2]"},
		{"a\u0301\u0302b\u0301c\u0301", 200, "[5 7]"}, {"a\u0301\u0302b\u0301c\u0301", 100, "[3 5 7]"}, {"a\u0301\u0302b\u0301c\u0301", 99, "[3 5 7]"}, {"\U0001f1e6\U0001f1e7\U0001f1e8\U0001f1e9\U0001f1ea", 150, "[2 4 5]"}, {"\U0001f1e6\U0001f1e7\U0001f1e8\U0001f1e9\U0001f1ea", 200, "[4 5]"},
		// What has no width goes with the word that is cut, as long as it fits.
		{"aa\u2066\u2067aa", 200, "[4 6]"}, {"aa\u2066\u2067aa", 199, "[1 4 5 6]"}, {"aa\u2066aa", 0, "[1 2 3 4 5]"}, {"\u2066a", 0, "[1 2]"}, {"\u2066\u2067a", 99, "[2 3]"},
		// A single cluster that is too wide stands alone, with what may not be parted from it but needs no room left out.
		{"m a", 100, "[1 2 3]"}, {"\u4e00\u4e01", 100, "[1 2]"}, {"\u4e00, a", 150, "[1 3 4]"}, {"\t\t", 300, "[1 2]"}, {"m", 100, "[1]"}, {"m\u0301a", 100, "[2 3]"},
		// A line ends where it must.
		{"a\nb", 9999, "[2 3]"}, {"a\n", 9999, "[2]"}, {"\n", 0, "[1]"}, {"\n\n\n", 0, "[1 2 3]"}, {"a b\nc d", 9999, "[4 7]"}, {"a\r\nb", 9999, "[3 4]"}, {"aaa\nb", 200, "[2 4 5]"}, {"\na", 9999, "[1 2]"}, {"aa\n", 100, "[1 3]"}, {"aa \n\n", 200, "[4 5]"},
		{"a \u05d0\u05d1 b", 460, "[5 6]"}, {"a \u05d0\u05d1 b", 399, "[2 5 6]"}, {"a-b", 200, "[2 3]"}, {"a-b", 199, "[1 2 3]"},
	})
	same(t, "as long as may be", impl.FillLines(repeated('a', impl.TextMax), nil, 3000, impl.FillGreedy), "[30 60 80]")
	same(t, "sizes", impl.FillLines(runesOf("aa bb cc"), spans{span(0, 2, 20, 0), span(7, 8, 1, 0)}, 460, impl.FillGreedy), "[3 8]")
	same(t, "the greatest size", impl.FillLines(repeated('\t', 20), spans{span(0, 20, impl.SizeMax, 0)}, impl.WideMax, impl.FillGreedy), "[12 20]")
}

// Of all ways the cheapest, of such the one whose lines are shorter first.
func TestBestLines(t *testing.T) {
	checkFill(t, impl.FillBest, []fillCase{
		{"", 100, "[]"}, {"a", 100, "[1]"}, {"aaa bb cc ddddd", 600, "[4 10 15]"}, {"aa bb cc", 460, "[6 8]"}, {"aa bb cc", 9999, "[8]"},
		// The same cost: 220 and 60 left over, in either order.
		{"a a a mm", 320, "[2 6 8]"}, {"a a a\u0301 mm", 320, "[2 7 9]"}, {"a a a a a mm", 320, "[2 6 10 12]"}, {"mm a a a mm", 320, "[3 5 9 11]"}, {"a a a mm\na a a mm", 320, "[2 6 9 11 15 17]"},
		// All cost nothing.
		{"\u200b\u2066", 0, "[1 2]"}, {"\u200b\u2066\u200b\u2067", 0, "[1 3 4]"}, {"a\u200b\u2066\nb", 100, "[2 4 5]"},
		// The last line, and each one that ends where it must, costs nothing, so all may stand on one.
		{"a b c", 420, "[5]"}, {"a b\nc d", 9999, "[4 7]"}, {"\n\n", 0, "[1 2]"}, {"a\n", 100, "[2]"}, {"aa bb cc\ndd ee ff", 460, "[6 9 15 17]"},
		// No way fits: as full as can be, all lines of it.
		{"aaaa b", 300, "[3 6]"}, {"a a a mm aaaa", 320, "[4 6 9 12 13]"}, {"a a a mm\naaaa", 320, "[4 6 9 12 13]"}, {"aaaa\na a a mm", 320, "[3 5 9 11 13]"}, {"m", 100, "[1]"}, {"ab", 0, "[1 2]"},
	})
	same(t, "greedy of the same", impl.FillLines(runesOf("a a a mm"), nil, 320, impl.FillGreedy), "[4 6 8]")
}

func TestLinesByWords(t *testing.T) {
	cut := 0
	someFilled(2500, func(f filled, d *dice) {
		greedy := impl.FillLines(f.runes, f.list, f.wide, impl.FillGreedy)
		best := impl.FillLines(f.runes, f.list, f.wide, impl.FillBest)
		same(t, fmt.Sprint("greedy ", f), greedy, f.greedy())
		same(t, fmt.Sprint("best ", f), best, f.best())
		if !slices.Equal(greedy, best) {
			cut++
		}
	})
	if cut < 50 {
		t.Errorf("%d were other ones, too few to tell", cut)
	}
}

// All texts of some letters, in all rooms up to all of it: here ways that cost the same are many.
func TestLinesOfAllShortTexts(t *testing.T) {
	letters := []int{'a', 'b', ' ', 10, 8203, lri, 768}
	texts := [][]int{{}}
	for range 5 {
		var longer [][]int
		for _, text := range texts {
			for _, r := range letters {
				longer = append(longer, joined(text, []int{r}))
			}
		}
		texts = longer
	}
	for i := 0; i < len(texts); i += 3 {
		for wide := 0; wide < 500; wide += 50 {
			f := filledOf(texts[i], nil, wide)
			if got, want := impl.FillLines(f.runes, nil, wide, impl.FillGreedy), f.greedy(); !slices.Equal(got, want) {
				t.Fatalf("greedy %v: got %v, want %v", f, got, want)
			}
			if got, want := impl.FillLines(f.runes, nil, wide, impl.FillBest), f.best(); !slices.Equal(got, want) {
				t.Fatalf("best %v: got %v, want %v", f, got, want)
			}
		}
	}
}

// P30, P31, P33: Each letter stands on just one line, and each line has some. A line ends wherever it must, and within a word only if the word has no room on a line of its own.
func TestEachLetterOnOneLine(t *testing.T) {
	within := 0
	someFilled(1500, func(f filled, d *dice) {
		for mode := impl.FillGreedy; mode <= impl.FillBest; mode++ {
			ends := impl.FillLines(f.runes, f.list, f.wide, mode)
			from := 0
			for _, to := range ends {
				if to <= from || to > len(f.runes) || f.overMust(from, to) {
					t.Fatalf("%v: %v", f, ends)
				}
				starts := impl.ClusterStarts(f.runes[from:to])
				if !f.fits(from, to) && len(starts) != 1 {
					t.Fatalf("%v: %v, the line to %d does not fit", f, ends, to)
				}
				if f.breaks[to-1] == impl.BreakNo {
					within++
					next := to
					for f.breaks[next-1] == impl.BreakNo {
						next++
					}
					if !f.clusterEnds(to) || f.fits(from, next) {
						t.Fatalf("%v: %v, the line to %d ends within a word", f, ends, to)
					}
				}
				from = to
			}
			if from != len(f.runes) {
				t.Fatalf("%v: %v does not end with all letters", f, ends)
			}
		}
	})
	if within < 100 {
		t.Errorf("%d lines ended within a word, too few to tell", within)
	}
}

// P32: No line could take the next word.
func TestNoLineCouldTakeTheNextWord(t *testing.T) {
	someFilled(1500, func(f filled, d *dice) {
		from := 0
		for _, to := range impl.FillLines(f.runes, f.list, f.wide, impl.FillGreedy) {
			if f.breaks[to-1] != impl.BreakMust {
				next := to + 1
				for f.breaks[next-1] == impl.BreakNo {
					next++
				}
				if f.fits(from, next) {
					t.Fatalf("%v: the line to %d has room up to %d", f, to, next)
				}
			}
			from = to
		}
	})
}

// P34, P35: No lines that fit cost less than the best, or are fewer than those that are as full as can be.
func TestNoLinesCostLess(t *testing.T) {
	fit := 0
	someFilled(4000, func(f filled, d *dice) {
		ends := someEnds(f, d)
		if !impl.FillFits(f.runes, f.list, f.wide, ends) {
			return
		}
		fit++
		best := impl.FillLines(f.runes, f.list, f.wide, impl.FillBest)
		greedy := impl.FillLines(f.runes, f.list, f.wide, impl.FillGreedy)
		cost, _ := impl.FillCost(f.runes, f.list, f.wide, ends)
		least, ok := impl.FillCost(f.runes, f.list, f.wide, best)
		if !ok || least > cost || !impl.FillFits(f.runes, f.list, f.wide, best) {
			t.Fatalf("%v: %v costs %d, %v %d", f, best, least, ends, cost)
		}
		if len(greedy) > len(ends) || !impl.FillFits(f.runes, f.list, f.wide, greedy) {
			t.Fatalf("%v: %v has more lines than %v", f, greedy, ends)
		}
	})
	if fit < 500 {
		t.Errorf("%d fitted, too few to tell", fit)
	}
}

// P36: With more room no more lines are needed.
func TestMoreRoom(t *testing.T) {
	someFilled(1500, func(f filled, d *dice) {
		few := impl.FillLines(f.runes, f.list, f.wide, impl.FillGreedy)
		if !impl.FillFits(f.runes, f.list, f.wide, few) {
			return
		}
		for _, more := range []int{1, 10, d.below(500), impl.WideMax - f.wide} {
			got := impl.FillLines(f.runes, f.list, min(f.wide+more, impl.WideMax), impl.FillGreedy)
			if len(got) > len(few) {
				t.Fatalf("%v: %v, with %d more %v", f, few, more, got)
			}
		}
	})
}

func TestCostOfLines(t *testing.T) {
	for i, c := range []struct {
		text string
		wide int
		ends []int
		want string
	}{
		{"", 100, nil, "0 true"}, {"", 100, []int{}, "0 true"}, {"", 100, []int{0}, "0 false"}, {"", 100, []int{1}, "0 false"},
		{"a", 100, []int{1}, "0 true"}, {"a", 0, []int{1}, "0 true"}, {"a", 0, nil, "0 false"}, {"a", 0, []int{}, "0 false"},
		{"a b", 150, []int{2, 3}, "2500 true"}, {"a b", 0, []int{2, 3}, "10000 true"}, {"a b", 100, []int{1, 2, 3}, "10000 true"}, {"a b", 100, []int{3}, "0 true"}, {"ab", impl.WideMax, []int{1, 2}, "396010000 true"},
		{"a\nb c", 150, []int{2, 4, 5}, "2500 true"}, {"a\nb c", 150, []int{4, 5}, "2500 true"}, {"a\nb c", 150, []int{1, 2, 5}, "2500 true"}, {"a\nb c", 150, []int{2, 5}, "0 true"},
		// Ends that do not ascend, begin at 0 or below, or do not end with all letters.
		{"abc", 100, []int{0, 3}, "0 false"}, {"abc", 100, []int{-1, 3}, "0 false"}, {"abc", 100, []int{1, 1, 3}, "0 false"}, {"abc", 100, []int{2, 1, 3}, "0 false"}, {"abc", 100, []int{1, 2}, "0 false"}, {"abc", 100, []int{1, 4}, "0 false"}, {"abc", 100, []int{3, 3}, "0 false"}, {"abc", 100, []int{3, 4}, "0 false"}, {"abc", 100, []int{4, 3}, "0 false"}, {"abc", 100, []int{most, 3}, "0 false"}, {"abc", 100, []int{least, 3}, "0 false"}, {"abc", 100, []int{3, least}, "0 false"}, {"abc", 100, []int{1, 3, 2}, "0 false"}, {"abc", 100, []int{5, 3}, "0 false"},
	} {
		cost, ok := impl.FillCost(runesOf(c.text), nil, c.wide, c.ends)
		same(t, fmt.Sprint("case ", i), fmt.Sprint(cost, ok), c.want)
	}
	cost, ok := impl.FillCost(repeated('\t', impl.TextMax), spans{span(0, impl.TextMax, impl.SizeMax, 0)}, 0, []int{impl.TextMax - 1, impl.TextMax})
	same(t, "the greatest", fmt.Sprint(cost, ok), fmt.Sprint(1600*79*1600*79, true))
	cost, ok = impl.FillCost(runesOf("aa bb cc"), spans{span(0, 2, 20, 0), span(7, 8, 1, 0)}, 460, []int{3, 6, 8})
	same(t, "sizes", fmt.Sprint(cost, ok), fmt.Sprint(60*60+260*260, true))
	someFilled(1500, func(f filled, d *dice) {
		ends := someEnds(f, d)
		want, from := 0, 0
		for _, to := range ends {
			want += f.costOf(from, to)
			from = to
		}
		cost, ok := impl.FillCost(f.runes, f.list, f.wide, ends)
		same(t, fmt.Sprint(f, ends), fmt.Sprint(cost, ok), fmt.Sprint(want, true))
	})
}

func TestLinesThatFit(t *testing.T) {
	for i, c := range []struct {
		text string
		wide int
		ends []int
		want bool
	}{
		{"", 100, nil, true}, {"", 0, []int{}, true}, {"", 100, []int{0}, false}, {"", 100, []int{1}, false},
		{"a", 100, []int{1}, true}, {"a", 99, []int{1}, false}, {"a", 100, nil, false}, {"a   ", 100, []int{4}, true}, {"   ", 0, []int{3}, true},
		{"a b", 100, []int{2, 3}, true}, {"a b", 260, []int{3}, true}, {"a b", 259, []int{3}, false}, {"a b", 999, []int{1, 3}, false}, {"ab", 999, []int{1, 2}, false},
		{"a\nb", 999, []int{2, 3}, true}, {"a\nb", 999, []int{3}, false}, {"a\nb", 999, []int{1, 2, 3}, false}, {"a\n", 999, []int{2}, true}, {"a\n\n", 999, []int{2, 3}, true}, {"a\n\n", 999, []int{3}, false}, {"\na b", 999, []int{3, 4}, false}, {"a\nb c", 999, []int{2, 4, 5}, true},
		{"a\u0301 b", 100, []int{3, 4}, true}, {"a\u0301 b", 100, []int{1, 3, 4}, false}, {"\u4e00\u4e00", 200, []int{1, 2}, true}, {"\u4e00\u4e00", 199, []int{1, 2}, false}, {"a mm", 300, []int{2, 4}, false},
		{"a b", 999, []int{0, 2, 3}, false}, {"a b", 999, []int{2, 2, 3}, false}, {"a b", 999, []int{2}, false}, {"a b", 999, []int{2, 4}, false}, {"a b", 999, []int{3, 2}, false}, {"a b", 999, []int{3, 2, 3}, false}, {"a b", 999, []int{-2, 3}, false}, {"a b", 999, []int{4, 3}, false}, {"a b", 999, []int{most, least}, false},
	} {
		same(t, fmt.Sprint("case ", i), impl.FillFits(runesOf(c.text), nil, c.wide, c.ends), c.want)
	}
	sized := spans{span(0, 1, 20, 0)}
	same(t, "sizes", []bool{impl.FillFits(runesOf("a b"), sized, 200, []int{2, 3}), impl.FillFits(runesOf("a b"), sized, 199, []int{2, 3})}, "[true false]")
	someFilled(2500, func(f filled, d *dice) {
		ends := someEnds(f, d)
		want, from := true, 0
		for _, to := range ends {
			want = want && f.breaks[to-1] != impl.BreakNo && f.fits(from, to)
			from = to
		}
		same(t, fmt.Sprint(f, ends), impl.FillFits(f.runes, f.list, f.wide, ends), want)
	})
}

func TestNothingIsFilledOfWrongThings(t *testing.T) {
	check := func(what string, runes []int, list spans, wide int) {
		t.Helper()
		ends := []int{len(runes)}
		if len(runes) == 0 {
			ends = nil
		}
		cost, ok := impl.FillCost(runes, list, wide, ends)
		greedy, best := impl.FillLines(runes, list, wide, impl.FillGreedy), impl.FillLines(runes, list, wide, impl.FillBest)
		if cost != 0 || ok || len(greedy) != 0 || len(best) != 0 || impl.FillFits(runes, list, wide, ends) {
			t.Errorf("%s: %d %v %v %v", what, cost, ok, greedy, best)
		}
	}
	for i, runes := range badLetters() {
		check(fmt.Sprint("letters ", i), runes, nil, impl.WideMax)
	}
	for _, list := range wrongSpans() {
		check(fmt.Sprint("spans ", list), repeated('a', 9), list, impl.WideMax)
	}
	check("spans of no letters", nil, spans{span(0, 1, 5, 1)}, 100)
	check("too many spans", repeated('a', 20), manySpans(impl.SpanMax+1), 100)
	for _, wide := range []int{-1, impl.WideMax + 1, least, most} {
		check(fmt.Sprint("wide ", wide), runesOf("a"), nil, wide)
		check(fmt.Sprint("wide ", wide), nil, nil, wide)
	}
	for _, mode := range []int{-1, 2, 3, least, most} {
		same(t, fmt.Sprint("mode ", mode), impl.FillLines(runesOf("a b"), nil, 999, mode), "[]")
	}
	same(t, "just ok", impl.FillLines(repeated('a', 13), manySpans(impl.SpanMax), impl.WideMax, impl.FillBest), "[13]")
}
