package tests

import (
	"fmt"
	"slices"
	"strings"
	"testing"

	"loop.example/colophon/impl"
)

func textOf(runes []int) string {
	var text strings.Builder
	for _, r := range runes {
		text.WriteRune(rune(r))
	}
	return text.String()
}

func para(text string, base int, wide int, mode int, align int, list ...impl.Span) impl.Para {
	return impl.Para{Text: text, Base: base, Wide: wide, Mode: mode, Align: align, Spans: list}
}

// someParas hands on paragraphs that are ok.
func someParas(times int, each func(p impl.Para, f filled, d *dice)) {
	hand := func(f filled, d *dice) {
		each(para(textOf(f.runes), d.below(3), f.wide, d.below(2), d.below(4), f.list...), f, d)
	}
	someFilled(times, hand)
	d := dice(8)
	someTexts(times, func(runes []int) {
		hand(filledOf(runes, spansFor(len(runes), &d), 10*d.below(2001)), &d)
	})
}

// levelOf is the level of a paragraph.
func levelOf(p impl.Para) int {
	if p.Base == impl.BaseAuto {
		return impl.LevelBase(runesOf(p.Text))
	}
	return p.Base
}

// lineOf is a line of a paragraph told another way: first how wide each glyph is, then from where on all stand side by side.
func lineOf(p impl.Para, f filled, from int, to int) impl.Line {
	level := levelOf(p)
	levels := impl.LineLevels(f.runes, level, from, to)
	wides, wide := slices.Clone(f.wides), wideOf(f.runes, f.wides, from, to)
	var blanks []int
	for at := from; at < to; at++ {
		if f.runes[at] == ' ' && slices.ContainsFunc(f.runes[at:to], func(r int) bool { return !isEmptyAtEnd(r) }) {
			blanks = append(blanks, at)
		}
	}
	if p.Align == impl.AlignBoth && to < len(f.runes) && f.runes[to-1] != 10 && len(blanks) > 0 {
		for i := 0; wide < p.Wide; i++ {
			wides[blanks[i%len(blanks)]]++
			wide++
		}
	}
	room := max(p.Wide-wide, 0)
	x := [][]int{{0, room, room / 2, 0}, {room, 0, room / 2, room}}[level][p.Align]
	order := impl.OrderOf(levels)
	if level == 1 {
		x += wide
		for _, place := range order {
			x -= wides[from+place]
		}
	}
	l, seen := line(from, to, wide), impl.SeenOf(f.runes, level, from, to)
	for i, place := range order {
		if at := from + place; place == 0 || impl.ClusterAt(f.runes, at) == at {
			l.Glyphs = append(l.Glyphs, glyph(at, seen[i], x, wides[at], levels[place]))
			x += wides[at]
		}
	}
	return l
}

func linesOfPara(p impl.Para, f filled) []impl.Line {
	ends := f.greedy()
	if p.Mode == impl.FillBest {
		ends = f.best()
	}
	var lines []impl.Line
	from := 0
	for _, to := range ends {
		lines = append(lines, lineOf(p, f, from, to))
		from = to
	}
	return lines
}

// showOf is how lines are told.
func showOf(lines []impl.Line) string {
	told := ""
	for _, l := range lines {
		told += fmt.Sprintf("%d to %d, %d wide:", l.From, l.To, l.Wide)
		for _, g := range l.Glyphs {
			told += fmt.Sprintf(" %d@%d", g.At, g.X)
		}
		told += "\n"
	}
	return told
}

func TestNumbersOfParagraphs(t *testing.T) {
	same(t, "numbers", []int{impl.BaseAuto, impl.ParaText, impl.ParaSpan, impl.ParaWide, impl.ParaWay}, "[2 1 2 3 4]")
}

type wrongPara struct {
	p    impl.Para
	code int
}

// wrongParas is paragraphs that are not ok, and the code of what is wrong with each first.
func wrongParas() []wrongPara {
	bad, over := span(0, 1, 0, 0), impl.WideMax+1
	long := strings.Repeat("a", impl.TextMax+1)
	list := []wrongPara{
		{para("\x80", 0, 100, 0, 0), 1}, {para("a\xff", 0, 100, 0, 0), 1}, {para("a\xd7", 2, 100, 1, 3), 1}, {para("\xed\xa0\x80", 0, 100, 0, 0), 1}, {para(long, 0, 100, 0, 0), 1}, {para(long, 0, 100, 0, 0, span(0, 1, 5, 1)), 1},
		{para("a", 0, 100, 0, 0, bad), 2}, {para("", 0, 100, 0, 0, span(0, 1, 5, 1)), 2}, {para("ab", 0, 100, 0, 0, span(1, 3, 5, 1)), 2}, {para("\u05d0", 0, 100, 0, 0, span(0, 2, 5, 1)), 2}, {para(strings.Repeat("a", 20), 0, 100, 0, 0, manySpans(impl.SpanMax+1)...), 2},
		// Several things are wrong: the first is told.
		{para("\x80", 9, -1, 9, 9, bad), 1}, {para("\x80", 0, 100, 0, 0, bad), 1}, {para("\x80", 0, -1, 0, 0), 1}, {para("\x80", 3, 100, 0, 0), 1}, {para(long, -1, over, -1, -1, bad), 1},
		{para("a", 9, -1, 9, 9, bad), 2}, {para("a", 0, -1, 0, 0, bad), 2}, {para("a", 0, 100, 2, 0, bad), 2}, {para("a", 0, over, 0, 4, bad), 2},
		{para("a", 3, -1, 0, 0), 3}, {para("a", 0, over, 2, 0), 3}, {para("a", 0, -1, 0, 4), 3}, {para("", -1, least, -1, -1), 3}, {para("a", 9, over, 9, 9, span(0, 1, 5, 1)), 3},
		{para("a", 9, 100, 9, 9), 4}, {para("", 3, 100, 0, 0), 4}, {para("a", -1, impl.WideMax, -1, -1), 4}, {para("a", 3, 0, 0, 0), 4},
	}
	for _, wide := range []int{-1, over, least, most} {
		list = append(list, wrongPara{para("ab", 0, wide, 0, 0), 3}, wrongPara{para("", 2, wide, 1, 3), 3})
	}
	for _, n := range []int{-1, least, most, 4} {
		list = append(list, wrongPara{para("ab", n, 100, 0, 0), 4}, wrongPara{para("ab", 0, 100, n, 0), 4}, wrongPara{para("ab", 0, 100, 0, n), 4})
	}
	return append(list, wrongPara{para("ab", 3, 100, 0, 0), 4}, wrongPara{para("ab", 0, 100, 2, 0), 4})
}

// P44: What is wrong is told, the first first.
func TestWhatIsWrongFirst(t *testing.T) {
	for i, c := range wrongParas() {
		what := fmt.Sprint("case ", i)
		same(t, what, impl.ParaCheck(c.p), c.code)
		lines, code := impl.ParaLines(c.p)
		same(t, what, fmt.Sprint(lines, code), fmt.Sprint("[] ", c.code))
		same(t, what, impl.ParaShow(c.p), fmt.Sprintf("wrong %d\n", c.code))
		at, behind, ok := impl.ParaHit(c.p, 0, 0)
		same(t, what, fmt.Sprint(at, behind, ok), "0 false false")
		row, x, ok := impl.ParaCaret(c.p, 0)
		same(t, what, fmt.Sprint(row, x, ok), "0 0 false")
		same(t, what, impl.ParaRects(c.p, 0, 1), "[]")
		put, ok := impl.ParaPut(c.p, 0, "")
		checkNoPara(t, what, put, ok)
		put, ok = impl.ParaPut(c.p, 0, "a")
		checkNoPara(t, what, put, ok)
		cut, ok := impl.ParaCut(c.p, 0, 0)
		checkNoPara(t, what, cut, ok)
		cut, ok = impl.ParaCut(c.p, 0, 1)
		checkNoPara(t, what, cut, ok)
		styled, ok := impl.ParaStyle(c.p, span(0, 1, 5, 1))
		checkNoPara(t, what, styled, ok)
	}
}

func TestParagraphsThatAreOk(t *testing.T) {
	for i, p := range []impl.Para{
		{}, para("", 2, impl.WideMax, 1, 3), para("a", 0, 0, 0, 0), para("a", 0, impl.WideMax, 0, 0), para("a", 1, 1, 1, 1), para("a", 2, 1, 1, 2), para("\ufffd", 0, 100, 0, 0), para("\x00", 0, 100, 0, 0),
		para(strings.Repeat("\U0010ffff", impl.TextMax), 0, 100, 0, 0, span(0, impl.TextMax, impl.SizeMax, 9)), para(strings.Repeat("a", 20), 0, 100, 0, 0, manySpans(impl.SpanMax)...),
		// Spans need not be plain.
		para("ab", 0, 100, 0, 0, span(0, 1, 10, 0), span(1, 2, 10, 0)),
	} {
		same(t, fmt.Sprint("case ", i), impl.ParaCheck(p), 0)
	}
	someParas(200, func(p impl.Para, f filled, d *dice) {
		same(t, "some", impl.ParaCheck(p), 0)
		wrong := p
		wrong.Text += "\x80"
		same(t, "text", impl.ParaCheck(wrong), impl.ParaText)
		wrong = p
		wrong.Wide = -1 - d.below(9)
		same(t, "wide", impl.ParaCheck(wrong), impl.ParaWide)
		wrong.Spans = append(slices.Clone(p.Spans), span(len(f.runes), len(f.runes)+1, 5, 1))
		same(t, "spans", impl.ParaCheck(wrong), impl.ParaSpan)
	})
}

type showCase struct {
	p    impl.Para
	want string
}

func checkShows(t *testing.T, cases []showCase) {
	t.Helper()
	for i, c := range cases {
		what := fmt.Sprint("case ", i)
		same(t, what, impl.ParaShow(c.p), c.want)
		lines, code := impl.ParaLines(c.p)
		same(t, what, fmt.Sprint(showOf(lines), code), fmt.Sprint(c.want, 0))
	}
}

// P53: How a paragraph stands can always be told.
func TestParagraphsAreShown(t *testing.T) {
	checkShows(t, []showCase{
		{para("", 0, 100, 0, 0), ""}, {para("", 2, 0, 1, 3), ""}, {para("a", 0, 100, 0, 0), "0 to 1, 100 wide: 0@0\n"},
		// A line that has nothing to see is one.
		{para("\n", 0, 100, 0, 0), "0 to 1, 0 wide: 0@0\n"}, {para("\u200b", 0, 100, 0, 1), "0 to 1, 0 wide:\n"}, {para("\n\n", 1, 100, 0, 0), "0 to 1, 0 wide: 0@100\n1 to 2, 0 wide: 1@100\n"}, {para("a\n", 0, 100, 0, 0), "0 to 2, 100 wide: 0@0 1@100\n"},
		{para("ab cd", 0, 300, 0, 0), "0 to 3, 200 wide: 0@0 1@100 2@200\n3 to 5, 200 wide: 3@0 4@100\n"}, {para("ab cd", 0, 300, 0, 1), "0 to 3, 200 wide: 0@100 1@200 2@300\n3 to 5, 200 wide: 3@100 4@200\n"}, {para("ab cd", 0, 301, 0, 2), "0 to 3, 200 wide: 0@50 1@150 2@250\n3 to 5, 200 wide: 3@50 4@150\n"},
		{para("ab cd", 1, 300, 0, 0), "0 to 3, 200 wide: 2@40 0@100 1@200\n3 to 5, 200 wide: 3@100 4@200\n"}, {para("ab cd", 1, 300, 0, 1), "0 to 3, 200 wide: 2@-60 0@0 1@100\n3 to 5, 200 wide: 3@0 4@100\n"}, {para("ab cd", 1, 300, 0, 2), "0 to 3, 200 wide: 2@-10 0@50 1@150\n3 to 5, 200 wide: 3@50 4@150\n"},
		// The side that letters tell.
		{para("ab cd", 2, 300, 0, 1), "0 to 3, 200 wide: 0@100 1@200 2@300\n3 to 5, 200 wide: 3@100 4@200\n"}, {para("\u05d0a", 2, 300, 0, 0), "0 to 2, 220 wide: 1@80 0@180\n"}, {para("\u05d0a", 0, 300, 0, 0), "0 to 2, 220 wide: 0@0 1@120\n"}, {para("1 \u0627", 2, 300, 0, 0), "0 to 3, 280 wide: 2@20 1@140 0@200\n"}, {para("12", 2, 300, 0, 0), "0 to 2, 200 wide: 0@0 1@100\n"}, {para("12", 1, 300, 0, 0), "0 to 2, 200 wide: 0@100 1@200\n"},
		// No room at all, and the most.
		{para("ab", 0, 0, 0, 0), "0 to 1, 100 wide: 0@0\n1 to 2, 100 wide: 1@0\n"}, {para("ab", 1, 0, 1, 3), "0 to 1, 100 wide: 0@0\n1 to 2, 100 wide: 1@0\n"}, {para("ab", 0, impl.WideMax, 0, 1), "0 to 2, 200 wide: 0@19800 1@19900\n"}, {para("ab", 1, impl.WideMax, 0, 0), "0 to 2, 200 wide: 0@19800 1@19900\n"},
		// Sizes, and both ways to fill.
		{para("abc", 0, 250, 0, 0, span(1, 2, 15, 3)), "0 to 2, 250 wide: 0@0 1@100\n2 to 3, 100 wide: 2@0\n"}, {para("aaa bb cc ddddd", 0, 600, 0, 0), "0 to 7, 560 wide: 0@0 1@100 2@200 3@300 4@360 5@460 6@560\n7 to 10, 200 wide: 7@0 8@100 9@200\n10 to 15, 500 wide: 10@0 11@100 12@200 13@300 14@400\n"}, {para("aaa bb cc ddddd", 0, 600, 1, 0), "0 to 4, 300 wide: 0@0 1@100 2@200 3@300\n4 to 10, 460 wide: 4@0 5@100 6@200 7@260 8@360 9@460\n10 to 15, 500 wide: 10@0 11@100 12@200 13@300 14@400\n"},
	})
}

// P46: A line that stands in all of the width does.
func TestLinesStandInAllOfTheWidth(t *testing.T) {
	checkShows(t, []showCase{
		{para("a b cd", 0, 400, 0, 3), "0 to 4, 400 wide: 0@0 1@100 2@300 3@400\n4 to 6, 200 wide: 4@0 5@100\n"},
		// On the level 1 the line grows to the left.
		{para("a b cd", 1, 400, 0, 3), "0 to 4, 400 wide: 3@-60 0@0 1@100 2@300\n4 to 6, 200 wide: 4@200 5@300\n"}, {para("\u05d0 \u05d1 \u05d2\u05d3", 2, 400, 0, 3), "0 to 4, 400 wide: 3@-60 2@0 1@120 0@280\n4 to 6, 240 wide: 5@160 4@280\n"}, {para("\u05d0 \u05d1 \u05d2\u05d3", 0, 400, 0, 3), "0 to 4, 400 wide: 2@0 1@120 0@280 3@400\n4 to 6, 240 wide: 5@0 4@120\n"},
		// More is left than blanks divide.
		{para("a b c dddd", 0, 425, 0, 3), "0 to 6, 425 wide: 0@0 1@100 2@163 3@263 4@325 5@425\n6 to 10, 400 wide: 6@0 7@100 8@200 9@300\n"}, {para("a b c dddd", 1, 425, 0, 3), "0 to 6, 425 wide: 5@-60 0@0 1@100 2@163 3@263 4@325\n6 to 10, 400 wide: 6@25 7@125 8@225 9@325\n"},
		// A line that ends where it must, and a last line, stay as they are.
		{para("a b\ncd", 0, 400, 0, 3), "0 to 4, 260 wide: 0@0 1@100 2@160 3@260\n4 to 6, 200 wide: 4@0 5@100\n"}, {para("a b\ncd", 1, 400, 0, 3), "0 to 4, 260 wide: 3@140 0@140 1@240 2@300\n4 to 6, 200 wide: 4@200 5@300\n"}, {para("a b", 0, 400, 0, 3), "0 to 3, 260 wide: 0@0 1@100 2@160\n"}, {para("a b ", 1, 400, 0, 3), "0 to 4, 260 wide: 3@80 0@140 1@240 2@300\n"},
		// So do lines without a blank but at their end, and such as leave nothing over.
		{para("ab cd", 0, 300, 0, 3), "0 to 3, 200 wide: 0@0 1@100 2@200\n3 to 5, 200 wide: 3@0 4@100\n"}, {para("ab cd", 1, 300, 0, 3), "0 to 3, 200 wide: 2@40 0@100 1@200\n3 to 5, 200 wide: 3@100 4@200\n"}, {para("a b cd", 0, 260, 0, 3), "0 to 4, 260 wide: 0@0 1@100 2@160 3@260\n4 to 6, 200 wide: 4@0 5@100\n"},
		{para("a b cd", 1, 261, 0, 3), "0 to 4, 261 wide: 3@-60 0@0 1@100 2@161\n4 to 6, 200 wide: 4@61 5@161\n"}, {para("aaaa", 0, 250, 0, 3), "0 to 2, 200 wide: 0@0 1@100\n2 to 4, 200 wide: 2@0 3@100\n"},
	})
	spread := 0
	someParas(1000, func(p impl.Para, f filled, d *dice) {
		p.Align = impl.AlignBoth
		lines, _ := impl.ParaLines(p)
		for _, l := range lines {
			inner := strings.TrimRightFunc(textOf(f.runes[l.From:l.To]), func(r rune) bool { return isEmptyAtEnd(int(r)) })
			if f.breaks[l.To-1] != impl.BreakMust && strings.Contains(inner, " ") {
				spread++
				if l.Wide < p.Wide {
					t.Fatalf("%v: %v", p, l)
				}
			}
		}
	})
	if spread < 300 {
		t.Errorf("%d lines stand in all of the width, too few to tell", spread)
	}
}

// P43, P53: lines told another way.
func TestParagraphsByWords(t *testing.T) {
	someParas(2000, func(p impl.Para, f filled, d *dice) {
		want := linesOfPara(p, f)
		got, code := impl.ParaLines(p)
		same(t, fmt.Sprintf("%+v", p), fmt.Sprint(got, code), fmt.Sprint(want, 0))
		same(t, "shown", impl.ParaShow(p), showOf(want))
	})
	// As wide as it can be: all is still within what lines may be.
	for align := impl.AlignStart; align <= impl.AlignBoth; align++ {
		for base := range 2 {
			runes := joined(repeated('\t', 12), repeated(' ', 67), []int{'a'})
			f := filledOf(runes, spans{span(0, 80, impl.SizeMax, 0)}, impl.WideMax)
			p := para(textOf(runes), base, impl.WideMax, impl.FillGreedy, align, f.list...)
			got, _ := impl.ParaLines(p)
			same(t, "widest", got, linesOfPara(p, f))
			far, _, ok := impl.ParaHit(p, 0, -2*impl.WideMax)
			same(t, "widest", ok && far >= 0, true)
		}
	}
}

// P43: Each letter of a paragraph stands once, on a line and at a place where it is found again. P48, P49.
func TestLettersAreFoundAgain(t *testing.T) {
	found, lost := 0, 0
	someParas(150, func(p impl.Para, f filled, d *dice) {
		lines, _ := impl.ParaLines(p)
		end := 0
		for i, l := range lines {
			if l.From != end || l.To <= l.From {
				t.Fatalf("%v: %v", p, lines)
			}
			end = l.To
			seen := map[int]impl.Glyph{}
			for _, g := range l.Glyphs {
				seen[g.At] = g
			}
			for at := l.From; at < l.To; at++ {
				row, x, ok := impl.ParaCaret(p, at)
				g, has := seen[at]
				if !has {
					same(t, "no glyph", fmt.Sprint(row, x, ok), "0 0 false")
					lost++
					continue
				}
				same(t, fmt.Sprint("caret ", at, " of ", p), fmt.Sprint(row, x, ok), fmt.Sprint(i, g.X+g.Level%2*g.Wide, true))
				if g.Wide >= 2 {
					hit, behind, ok := impl.ParaHit(p, row, x-g.Level%2)
					same(t, fmt.Sprint("hit ", at, " of ", p), fmt.Sprint(hit, behind, ok), fmt.Sprint(at, false, true))
					found++
				}
			}
		}
		same(t, "end", end, len(f.runes))
		for _, at := range []int{-1, len(f.runes), least, most} {
			row, x, ok := impl.ParaCaret(p, at)
			same(t, fmt.Sprint("caret ", at), fmt.Sprint(row, x, ok), "0 0 false")
		}
	})
	if found < 1000 || lost < 1000 {
		t.Errorf("%d were found, %d not: too few to tell", found, lost)
	}
}

// P45: How a paragraph stands does not change what stands on each line.
func TestAnotherAlignIsTheSameLines(t *testing.T) {
	order := func(p impl.Para) string {
		lines, _ := impl.ParaLines(p)
		told := ""
		for _, l := range lines {
			told += fmt.Sprint(l.From, " to ", l.To, ":")
			for _, g := range l.Glyphs {
				told += fmt.Sprint(" ", g.At, g.Rune, g.Level)
			}
		}
		return told
	}
	someParas(500, func(p impl.Para, f filled, d *dice) {
		want := order(p)
		for p.Align = impl.AlignStart; p.Align <= impl.AlignBoth; p.Align++ {
			same(t, fmt.Sprint(p), order(p), want)
		}
	})
}

// P48: Who points anywhere at a line is told a letter of it.
func TestWhoPointsAtAParagraph(t *testing.T) {
	const far = 2 * impl.WideMax
	p := para("ab cd\n\u05d0\u05d1\n\n", 0, 300, 0, 1)
	for _, c := range []struct {
		line, x int
		want    string
	}{
		{0, 100, "0 false true"}, {0, 149, "0 false true"}, {0, 150, "0 true true"}, {0, 300, "2 false true"}, {0, 330, "2 true true"}, {1, 100, "3 false true"}, {1, 250, "4 true true"}, {2, 60, "7 true true"}, {2, 179, "7 false true"}, {2, 299, "6 false true"}, {2, 180, "6 true true"},
		// A line that has nothing to see tells its first letter.
		{3, 0, "9 false true"}, {3, -far, "9 false true"}, {3, far, "9 false true"},
		{0, -far, "0 false true"}, {0, far, "2 true true"}, {2, -far, "7 true true"}, {2, far, "6 false true"}, {0, -far - 1, "0 false false"}, {0, far + 1, "0 false false"}, {3, far + 1, "0 false false"}, {1, least, "0 false false"}, {1, most, "0 false false"},
		{-1, 100, "0 false false"}, {4, 100, "0 false false"}, {least, 0, "0 false false"}, {most, 0, "0 false false"}, {-1, far + 1, "0 false false"},
	} {
		at, behind, ok := impl.ParaHit(p, c.line, c.x)
		same(t, fmt.Sprint(c.line, " ", c.x), fmt.Sprint(at, behind, ok), c.want)
	}
	for _, row := range []int{-1, 0, 1} {
		at, behind, ok := impl.ParaHit(para("", 0, 300, 0, 0), row, 0)
		same(t, "no letters", fmt.Sprint(at, behind, ok), "0 false false")
	}
	someParas(80, func(p impl.Para, f filled, d *dice) {
		lines, _ := impl.ParaLines(p)
		for i, l := range lines {
			for _, x := range []int{-far, 0, d.below(p.Wide + 1), -d.below(500), l.Wide, far} {
				at, behind, ok := impl.ParaHit(p, i, x)
				hit, beyond := impl.LineHit(l, x)
				if !ok || at != hit || behind != beyond || at < l.From || at >= l.To {
					t.Fatalf("%v: line %d at %d: %d %v", p, i, x, at, ok)
				}
			}
		}
		_, _, ok := impl.ParaHit(p, len(lines), 0)
		same(t, "past the last", ok, false)
	})
}

// P49: Each letter of which something is seen begins somewhere.
func TestWhereLettersOfAParagraphBegin(t *testing.T) {
	for i, c := range []struct {
		p    impl.Para
		at   int
		want string
	}{
		{para("ab cd", 0, 300, 0, 1), 0, "0 100 true"}, {para("ab cd", 0, 300, 0, 1), 2, "0 300 true"}, {para("ab cd", 0, 300, 0, 1), 4, "1 200 true"}, {para("\u05d0\u05d1", 0, 300, 0, 0), 0, "0 240 true"}, {para("\u05d0\u05d1", 0, 300, 0, 0), 1, "0 120 true"}, {para("ab cd", 1, 300, 0, 0), 2, "0 100 true"},
		{para("ab cd", 0, 300, 0, 1), 5, "0 0 false"}, {para("ab cd", 0, 300, 0, 1), -1, "0 0 false"}, {para("ab", 0, 300, 0, 0), least, "0 0 false"}, {para("ab", 0, 300, 0, 0), most, "0 0 false"}, {para("", 0, 300, 0, 0), 0, "0 0 false"},
		// Letters without a glyph: behind the first of their cluster, or of the level -1; one without a width has one.
		{para("a\u0301b", 0, 300, 0, 0), 1, "0 0 false"}, {para("a\u0301b", 0, 300, 0, 0), 2, "0 100 true"}, {para("ab\u0301", 0, 100, 0, 0), 2, "0 0 false"}, {para("a\u200bb", 0, 300, 0, 0), 1, "0 0 false"}, {para("\u202aa\u202c", 0, 300, 0, 0), 0, "0 0 false"}, {para("\u202aa\u202c", 0, 300, 0, 0), 2, "0 0 false"}, {para("a\r\nb", 0, 300, 0, 0), 2, "0 0 false"}, {para("a\r\nb", 0, 300, 0, 0), 1, "0 100 true"}, {para("a\u2066b", 0, 300, 0, 0), 1, "0 100 true"}, {para("\U0001f1e6\U0001f1e7", 0, 300, 0, 0), 1, "0 0 false"},
		{para("a\nb", 0, 300, 0, 0), 1, "0 100 true"}, {para("a\nb", 0, 300, 0, 0), 2, "1 0 true"}, {para("\u0301a", 0, 300, 0, 0), 0, "0 0 true"},
	} {
		row, x, ok := impl.ParaCaret(c.p, c.at)
		same(t, fmt.Sprint("case ", i), fmt.Sprint(row, x, ok), c.want)
	}
}

// P47: What is marked is as wide as its letters, on whatever line they stand.
func TestMarkedParts(t *testing.T) {
	two := para("ab cd", 0, 300, 0, 1)
	right := para("\u05d0\u05d1\u05d2", 1, 240, 0, 0)
	mixed := para("ab\u05d0\u05d1c", 0, 900, 0, 0)
	for i, c := range []struct {
		p        impl.Para
		from, to int
		want     string
	}{
		{two, 0, 1, "[{0 100 100}]"}, {two, 0, 2, "[{0 100 200}]"}, {two, 1, 3, "[{0 200 160}]"}, {two, 0, 5, "[{0 100 260} {1 100 200}]"}, {two, 1, 4, "[{0 200 160} {1 100 100}]"}, {two, 3, 5, "[{1 100 200}]"},
		// From above to, below 0, past the end.
		{two, 0, 0, "[]"}, {two, 2, 2, "[]"}, {two, 2, 1, "[]"}, {two, 5, 0, "[]"}, {two, most, least, "[]"}, {two, -1, 1, "[{0 100 100}]"}, {two, -5, 0, "[]"}, {two, 4, 99, "[{1 200 100}]"}, {two, 5, 99, "[]"}, {two, least, most, "[{0 100 260} {1 100 200}]"},
		// On two lines side by side is not together, even where one ends and the next one begins.
		{right, 0, 3, "[{0 0 240} {1 120 120}]"}, {right, 1, 3, "[{0 0 120} {1 120 120}]"},
		// Side by side is by what is seen: letters that are read behind each other may stand apart, and others together.
		{mixed, 0, 5, "[{0 0 540}]"}, {mixed, 0, 3, "[{0 0 200} {0 320 120}]"}, {mixed, 1, 4, "[{0 100 340}]"}, {mixed, 3, 5, "[{0 200 120} {0 440 100}]"}, {mixed, 2, 3, "[{0 320 120}]"}, {mixed, 2, 5, "[{0 200 340}]"},
		// Letters without a glyph, or without a width, are not marked, and part nothing.
		{para("a\u0301b", 0, 300, 0, 0), 1, 2, "[]"}, {para("a\u0301b", 0, 300, 0, 0), 0, 1, "[{0 0 100}]"}, {para("a\u0301b", 0, 300, 0, 0), 0, 3, "[{0 0 200}]"}, {para("a\u200bb", 0, 300, 0, 0), 1, 2, "[]"}, {para("a\u200bb", 0, 300, 0, 0), 0, 3, "[{0 0 200}]"}, {para("a\u2066b\u2069", 0, 300, 0, 0), 1, 2, "[]"}, {para("a\u2066b\u2069", 0, 300, 0, 0), 0, 4, "[{0 0 200}]"}, {para("a\nb", 0, 300, 0, 0), 1, 2, "[]"}, {para("\u202e\u202c", 0, 300, 0, 0), 0, 2, "[]"},
		{para("", 0, 300, 0, 0), 0, 1, "[]"}, {para("a b cd", 1, 400, 0, 3), 1, 4, "[{0 -60 60} {0 100 300}]"},
	} {
		same(t, fmt.Sprint("case ", i), impl.ParaRects(c.p, c.from, c.to), c.want)
	}
	someParas(700, func(p impl.Para, f filled, d *dice) {
		from := d.below(len(f.runes)+3) - 1
		to := from + d.below(len(f.runes)+3) - 1
		lines, _ := impl.ParaLines(p)
		// Bit by bit: each place of a line that a marked glyph covers, and no other.
		want := map[[2]int]int{}
		for i, l := range lines {
			for _, g := range l.Glyphs {
				for x := g.X; x < g.X+g.Wide && g.At >= from && g.At < to; x++ {
					want[[2]int{i, x}]++
				}
			}
		}
		rects, all := impl.ParaRects(p, from, to), 0
		for i, r := range rects {
			all += r.Wide
			for x := r.X; x < r.X+r.Wide; x++ {
				if want[[2]int{r.Line, x}] != 1 {
					t.Fatalf("%v from %d to %d: %v", p, from, to, rects)
				}
			}
			if r.Wide <= 0 || i > 0 && (r.Line < rects[i-1].Line || r.Line == rects[i-1].Line && r.X <= rects[i-1].X+rects[i-1].Wide) {
				t.Fatalf("%v from %d to %d: %v", p, from, to, rects)
			}
		}
		same(t, "all together", all, len(want))
	})
}
