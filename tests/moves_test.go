package tests

import (
	"fmt"
	"strings"
	"testing"

	"loop.example/colophon/impl"
)

// seenLine is a line, and those of its glyphs that are wide, from the left.
type seenLine struct {
	line impl.Line
	wide []impl.Glyph
}

// seenLines is the lines of a paragraph, told without the program's.
func seenLines(p impl.Para, f filled) []seenLine {
	var lines []seenLine
	for _, l := range linesOfPara(p, f) {
		seen := seenLine{line: l}
		for _, g := range l.Glyphs {
			if g.Wide > 0 {
				seen.wide = append(seen.wide, g)
			}
		}
		lines = append(lines, seen)
	}
	return lines
}

// moved is where one is moved from a letter.
type moved struct {
	left, right, first, last int
}

// movesOf is the moves from all letters, as the document's words go: on the line, then line by line.
func movesOf(p impl.Para, f filled) []moved {
	lines, step := seenLines(p, f), 1
	if levelOf(p) == 1 {
		step = -1
	}
	moves := make([]moved, len(f.runes))
	for i, l := range lines {
		last := l.line.To - 1
		for !f.clusterEnds(last) {
			last--
		}
		for at := l.line.From; at < l.line.To; at++ {
			moves[at] = moved{at, at, l.line.From, last}
		}
		for j, g := range l.wide {
			if j > 0 {
				moves[g.At].left = l.wide[j-1].At
			} else if above := nextWide(lines, i, -step); above != nil {
				moves[g.At].left = above[len(above)-1].At
			}
			if j+1 < len(l.wide) {
				moves[g.At].right = l.wide[j+1].At
			} else if below := nextWide(lines, i, step); below != nil {
				moves[g.At].right = below[0].At
			}
		}
	}
	return moves
}

// nextWide is the wide glyphs of the next line that has any, going by step.
func nextWide(lines []seenLine, i int, step int) []impl.Glyph {
	for i += step; i >= 0 && i < len(lines); i += step {
		if len(lines[i].wide) > 0 {
			return lines[i].wide
		}
	}
	return nil
}

// chain is the letters that are met from the left end on.
func chain(p impl.Para, at int) []int {
	for range impl.TextMax {
		at = impl.MoveLeft(p, at)
	}
	met := []int{at}
	for next := impl.MoveRight(p, at); next != at && len(met) <= impl.TextMax; next = impl.MoveRight(p, at) {
		met = append(met, next)
		at = next
	}
	return met
}

// P58: Who goes to the left, and then to the right, is where they were.
// P59: Who goes on to the right from the left end comes to each letter once.
func TestMovesFromTheLeftEnd(t *testing.T) {
	for i, c := range []struct {
		p    impl.Para
		want []int
	}{
		{para("a", 0, 300, 0, 0), []int{0}}, {para("a", 1, 300, 0, 0), []int{0}}, {para("abc", 0, 300, 0, 0), []int{0, 1, 2}}, {para("\u05d0\u05d1\u05d2", 0, 400, 0, 0), []int{2, 1, 0}},
		// At the edge of a line one goes on with the line below, on the level 1 with the one above.
		{para("ab cd", 0, 300, 0, 0), []int{0, 1, 2, 3, 4}}, {para("ab cd", 1, 300, 0, 0), []int{3, 4, 2, 0, 1}}, {para("ab cd ef", 0, 300, 0, 0), []int{0, 1, 2, 3, 4, 5, 6, 7}}, {para("ab cd ef", 1, 300, 0, 3), []int{6, 7, 5, 3, 4, 2, 0, 1}}, {para("\u05d0\u05d1 \u05d2\u05d3", 2, 300, 0, 0), []int{4, 3, 2, 1, 0}}, {para("\u05d0\u05d1 \u05d2\u05d3", 0, 300, 0, 0), []int{1, 0, 2, 4, 3}},
		// Without room each letter has a line.
		{para("abc", 0, 0, 0, 0), []int{0, 1, 2}}, {para("abc", 1, 0, 0, 0), []int{2, 1, 0}},
		// Lines that have nothing wide are passed over: at the beginning, within and at the end.
		{para("a\n\nb", 0, 300, 0, 0), []int{0, 3}}, {para("a\n\nb", 1, 300, 0, 0), []int{3, 0}}, {para("a\n\n\n\u05d0\n\n", 0, 300, 0, 1), []int{0, 4}}, {para("\n\nab\n\n", 0, 300, 0, 0), []int{2, 3}}, {para("\n\n\u05d0b\n\n", 1, 300, 0, 0), []int{3, 2}}, {para("a\n\u200b\nb", 0, 300, 0, 0), []int{0, 4}},
		// So are glyphs that are not wide, and letters that have none.
		{para("a\u0301b\u200bc\u2066d\u2069", 0, 900, 0, 0), []int{0, 2, 4, 6}}, {para("\u2067a\u2069b", 1, 900, 0, 0), []int{3, 1}}, {para("\u202ba\u202c\n\nb", 0, 900, 0, 0), []int{1, 5}},
		{para("ab", 0, 0, 0, 0, span(0, 1, 40, 0)), []int{0, 1}},
	} {
		for _, at := range c.want {
			same(t, fmt.Sprint("case ", i, " from ", at), chain(c.p, at), c.want)
		}
		for j, at := range c.want {
			same(t, fmt.Sprint("case ", i, " left of ", at), impl.MoveLeft(c.p, at), c.want[max(j-1, 0)])
			same(t, fmt.Sprint("case ", i, " right of ", at), impl.MoveRight(c.p, at), c.want[min(j+1, len(c.want)-1)])
		}
	}
}

func checkStays(t *testing.T, what string, p impl.Para, at int) {
	t.Helper()
	got := []int{impl.MoveLeft(p, at), impl.MoveRight(p, at)}
	for _, by := range []int{least, -impl.TextMax - 1, -impl.TextMax, -1, 0, 1, impl.TextMax, impl.TextMax + 1, most} {
		got = append(got, impl.MoveLine(p, at, by))
	}
	same(t, fmt.Sprint(what, " at ", at), got, repeated(at, len(got)))
}

func TestNoMoves(t *testing.T) {
	for i, c := range wrongParas() {
		for _, at := range []int{least, -1, 0, 1, 79, 80, most} {
			what := fmt.Sprint("wrong ", i)
			checkStays(t, what, c.p, at)
			checkHome(t, what, c.p, at, 0, 0)
		}
	}
	for _, p := range []impl.Para{{}, para("", 2, 300, 1, 3), para("a", 0, 300, 0, 0), para("ab cd", 1, 300, 0, 3), para(strings.Repeat("a", impl.TextMax), 0, 0, 0, 0)} {
		count := len(p.Text)
		for _, at := range []int{least, -2, -1, count, count + 1, impl.TextMax, most} {
			checkStays(t, "no such letter", p, at)
			checkHome(t, "no such letter", p, at, 0, 0)
		}
	}
	// Letters without a glyph, and such whose glyph is not wide.
	p := para("a\u0301b\u200bc\u2066d\u2069\ne\r\n\n\u00adf", 0, 900, 0, 0)
	for _, at := range []int{1, 3, 5, 7, 8, 10, 11, 12, 13} {
		checkStays(t, "not wide", p, at)
	}
}

// P60: Who goes a line down is on the next line.
func TestMovesToAnotherLine(t *testing.T) {
	p := para("one two \u05d0\u05d1\u05d2 three", 2, 700, 0, 1)
	tall := para(strings.Repeat("a", impl.TextMax), 0, 0, 0, 0)
	parted := para("ab\n\n\ncd", 0, 300, 0, 0)
	for i, c := range []struct {
		p            impl.Para
		at, by, want int
	}{
		{p, 6, 1, 8}, {p, 6, 9, 6}, {p, 6, 0, 6}, {p, 6, -1, 6}, {p, 8, -1, 6}, {p, 8, 1, 16}, {p, 9, 1, 15}, {p, 10, 1, 14},
		// Beyond a line's end its last letter is told, ahead of it its first one.
		{para("aaaa bb", 0, 400, 0, 0), 3, 1, 6}, {para("aaaa bb", 0, 400, 0, 1), 0, 1, 5}, {para("aaaa bb", 0, 400, 0, 1), 2, 1, 5}, {para("aaaa bb", 0, 400, 0, 1), 3, 1, 6}, {para("aaaa bb", 0, 400, 0, 0), 5, -1, 0}, {para("aaaa bb", 0, 400, 0, 0), 6, -1, 1},
		// The middle of a letter counts: what begins just there is told.
		{para("mm iiii", 0, 400, 0, 0), 0, 1, 4}, {para("mm iiii", 0, 400, 0, 0), 1, 1, 6}, {para("aa iiii", 0, 240, 0, 0), 0, 1, 3}, {para("aa iiii", 0, 240, 0, 0), 1, 1, 5}, {para("\u4e00\n,ab", 0, 300, 0, 0), 0, 1, 3}, {para("ab\n\u05d0\u05d1", 0, 300, 0, 0), 0, 1, 4}, {para("\u4e00 aa", 0, 200, 0, 0), 0, 1, 3}, {para("a b ccc", 1, 401, 0, 3), 1, 1, 4},
		{tall, 0, 79, 79}, {tall, 0, 80, 0}, {tall, 0, 81, 0}, {tall, 79, -79, 0}, {tall, 79, -80, 79}, {tall, 79, -81, 79}, {tall, 40, 39, 79}, {tall, 40, 40, 40}, {tall, 40, -40, 0}, {tall, 40, -41, 40}, {tall, 40, 0, 40}, {tall, 40, least, 40}, {tall, 40, most, 40}, {tall, 40, most - 20, 40},
		// A line that has nothing wide is none to go to.
		{parted, 0, 1, 0}, {parted, 0, 2, 0}, {parted, 0, 3, 5}, {parted, 1, 3, 6}, {parted, 5, -1, 5}, {parted, 5, -2, 5}, {parted, 6, -3, 1}, {para("a\n", 0, 300, 0, 0), 0, 1, 0},
		// Down is down on both levels.
		{para("ab cd", 1, 300, 0, 0), 0, 1, 3}, {para("ab cd", 1, 300, 0, 0), 4, -1, 1}, {para("\u05d0\u05d1 \u05d2\u05d3", 2, 300, 0, 0), 0, 1, 3}, {para("\u05d0\u05d1 \u05d2\u05d3", 2, 300, 0, 0), 2, 1, 4},
	} {
		same(t, fmt.Sprint("case ", i), impl.MoveLine(c.p, c.at, c.by), c.want)
	}
}

func checkHome(t *testing.T, what string, p impl.Para, at int, first int, last int) {
	t.Helper()
	gotFirst, gotLast := impl.MoveHome(p, at)
	same(t, fmt.Sprint(what, " home of ", at), []int{gotFirst, gotLast}, []int{first, last})
}

// P61: A line's first and last letters are of that line.
func TestMovesHome(t *testing.T) {
	for i, c := range []struct {
		p    impl.Para
		want []int // two of each letter
	}{
		{para("a", 0, 300, 0, 0), []int{0, 0}}, {para("ab", 0, 300, 0, 0), []int{0, 1, 0, 1}}, {para("\u05d0\u05d1", 2, 300, 0, 0), []int{0, 1, 0, 1}}, {para("ab cd", 1, 300, 0, 0), []int{0, 2, 0, 2, 0, 2, 3, 4, 3, 4}}, {para("ab", 0, 0, 0, 0), []int{0, 0, 1, 1}},
		// The last letter may be one that is not wide, or has no glyph; of its cluster the beginning is told.
		{para("a\n\nb", 0, 300, 0, 0), []int{0, 1, 0, 1, 2, 2, 3, 3}}, {para("aa\u0301", 0, 300, 0, 0), []int{0, 1, 0, 1, 0, 1}}, {para("a\r\nb", 0, 300, 0, 0), []int{0, 1, 0, 1, 0, 1, 3, 3}}, {para("a\u200b", 0, 300, 0, 0), []int{0, 1, 0, 1}}, {para("\u0301\u200d", 0, 300, 0, 0), []int{0, 0, 0, 0}}, {para("\U0001f1e6\U0001f1e7\U0001f1e6\U0001f1e7", 0, 300, 0, 0), []int{0, 2, 0, 2, 0, 2, 0, 2}},
	} {
		for at := range len(c.want) / 2 {
			checkHome(t, fmt.Sprint("case ", i), c.p, at, c.want[2*at], c.want[2*at+1])
		}
	}
}

func TestMovesByWords(t *testing.T) {
	someParas(60, func(p impl.Para, f filled, d *dice) {
		moves, wide := movesOf(p, f), 0
		for at, m := range moves {
			same(t, "left", impl.MoveLeft(p, at), m.left)
			same(t, "right", impl.MoveRight(p, at), m.right)
			checkHome(t, "some", p, at, m.first, m.last)
			checkHome(t, "first", p, m.first, m.first, m.last)
			checkHome(t, "last", p, m.last, m.first, m.last)
			if m.left != at && moves[m.left].right != at || m.right != at && moves[m.right].left != at {
				t.Errorf("%+v: from %d there is no way back", p, at)
			}
			if f.wides[at] > 0 {
				wide++
			}
		}
		for at := range f.runes {
			if f.wides[at] > 0 {
				same(t, "met", len(chain(p, at)), wide)
				break
			}
		}
	})
}

func TestMovesToSomeLines(t *testing.T) {
	someParas(120, func(p impl.Para, f filled, d *dice) {
		lines := seenLines(p, f)
		for i, l := range lines {
			if len(l.wide) == 0 {
				continue
			}
			g := l.wide[d.below(len(l.wide))]
			for _, by := range []int{d.below(2*len(lines)+3) - len(lines) - 1, 1, -1} {
				want := g.At
				if to := i + by; to >= 0 && to < len(lines) && len(lines[to].wide) > 0 {
					want = hitAmong(lines[to].wide, g.X+g.Wide/2)
					if want < lines[to].line.From || want >= lines[to].line.To {
						t.Errorf("%d is not on its line", want)
					}
				}
				same(t, "line", impl.MoveLine(p, g.At, by), want)
			}
		}
	})
}

// hitAmong is the letter of the last glyph that does not begin right of x, or of the first one.
func hitAmong(wide []impl.Glyph, x int) int {
	hit := wide[0].At
	for _, g := range wide {
		if g.X <= x {
			hit = g.At
		}
	}
	return hit
}
