package tests

import (
	"fmt"
	"slices"
	"testing"

	"loop.example/colophon/impl"
)

func glyph(at int, r int, x int, wide int, level int) impl.Glyph {
	return impl.Glyph{At: at, Rune: r, X: x, Wide: wide, Level: level}
}

func line(from int, to int, wide int, glyphs ...impl.Glyph) impl.Line {
	return impl.Line{From: from, To: to, Wide: wide, Glyphs: glyphs}
}

// someLines hands on letters with their spans, a base, and a line that is there.
func someLines(times int, each func(f filled, base int, from int, to int, d *dice)) {
	someFilled(times, func(f filled, d *dice) {
		from := d.below(len(f.runes) + 1)
		to := from + d.below(len(f.runes)-from+1)
		if d.below(3) == 0 {
			from, to = 0, len(f.runes)
		}
		each(f, d.below(2), from, to, d)
	})
	d := dice(7)
	someTexts(times, func(runes []int) {
		f := filledOf(runes, spansFor(len(runes), &d), 100*d.below(100))
		from := d.below(len(runes) + 1)
		each(f, d.below(2), from, from+d.below(len(runes)-from+1), &d)
	})
}

func TestNumbersOfLines(t *testing.T) {
	same(t, "numbers", []int{impl.AlignStart, impl.AlignEnd, impl.AlignCentre, impl.AlignBoth}, "[0 1 2 3]")
}

// P37: What is seen of a line stands side by side, from the left edge on.
func TestLinesAreMade(t *testing.T) {
	for i, c := range []struct {
		text           string
		list           spans
		base, from, to int
		want           string
	}{
		{"", nil, 0, 0, 0, "{0 0 0 []}"}, {"", nil, 1, 0, 0, "{0 0 0 []}"}, {"ab", nil, 0, 1, 1, "{1 1 0 []}"}, {"ab", nil, 1, 2, 2, "{2 2 0 []}"},
		{"ab", nil, 0, 0, 2, "{0 2 200 [{0 97 0 100 0} {1 98 100 100 0}]}"}, {"ab", nil, 1, 0, 2, "{0 2 200 [{0 97 0 100 2} {1 98 100 100 2}]}"}, {"ab", nil, 0, 1, 2, "{1 2 100 [{1 98 0 100 0}]}"},
		{"\u05d0\u05d1", nil, 0, 0, 2, "{0 2 240 [{1 1489 0 120 1} {0 1488 120 120 1}]}"}, {"\u05d0(\u05d1", nil, 1, 0, 3, "{0 3 340 [{2 1489 0 120 1} {1 41 120 100 1} {0 1488 220 120 1}]}"}, {"\u05d0>", nil, 1, 0, 2, "{0 2 220 [{1 60 0 100 1} {0 1488 100 120 1}]}"}, {"a)", nil, 0, 0, 2, "{0 2 200 [{0 97 0 100 0} {1 41 100 100 0}]}"},
		// Sizes, and clusters of several letters: one glyph each, on the right of what is read behind it.
		{"ab c", spans{span(0, 1, 20, 1), span(2, 4, 5, 0)}, 0, 0, 4, "{0 4 380 [{0 97 0 200 0} {1 98 200 100 0} {2 32 300 30 0} {3 99 330 50 0}]}"},
		{"a\u0301b", nil, 0, 0, 3, "{0 3 200 [{0 97 0 100 0} {2 98 100 100 0}]}"}, {"\u05d0\u0301\u05d1", nil, 1, 0, 3, "{0 3 240 [{2 1489 0 120 1} {0 1488 120 120 1}]}"}, {"a\r\nb", nil, 0, 0, 3, "{0 3 100 [{0 97 0 100 0} {1 13 100 0 0}]}"},
		// The first letter of a line has a glyph, also within a cluster, but no width of its own then.
		{"a\u0301b", nil, 0, 1, 3, "{1 3 100 [{1 769 0 0 0} {2 98 0 100 0}]}"}, {"a\u0301b", nil, 0, 1, 2, "{1 2 0 [{1 769 0 0 0}]}"}, {"\u05d0\u0301\u0302\u05d1", nil, 1, 1, 4, "{1 4 120 [{3 1489 0 120 1} {1 769 120 0 1}]}"}, {"a\u0301\u0302", nil, 0, 0, 3, "{0 3 100 [{0 97 0 100 0}]}"},
		// What only tells how others are read is not seen, not even as the first.
		{"\u200ba\u202a\u00ad", nil, 0, 0, 4, "{0 4 100 [{1 97 0 100 0}]}"}, {"\u202ba\u202c", nil, 0, 0, 3, "{0 3 100 [{1 97 0 100 2}]}"}, {"\u200d\u0301a", nil, 0, 0, 3, "{0 3 100 [{2 97 0 100 0}]}"}, {"\u2066a\u2069", nil, 0, 0, 3, "{0 3 100 [{0 8294 0 0 0} {1 97 0 100 2} {2 8297 100 0 0}]}"},
		// Blanks at the end have no width of the line's, but one of their own, on the side of all.
		{"a  \n", nil, 0, 0, 4, "{0 4 100 [{0 97 0 100 0} {1 32 100 60 0} {2 32 160 60 0} {3 10 220 0 0}]}"}, {"\u05d0  ", nil, 1, 0, 3, "{0 3 120 [{2 32 0 60 1} {1 32 60 60 1} {0 1488 120 120 1}]}"}, {"\u05d0 ", nil, 0, 0, 2, "{0 2 120 [{0 1488 0 120 1} {1 32 120 60 0}]}"}, {"  ", nil, 1, 0, 2, "{0 2 0 [{1 32 0 60 1} {0 32 60 60 1}]}"}, {"a \u05d0", nil, 0, 0, 2, "{0 2 100 [{0 97 0 100 0} {1 32 100 60 0}]}"}, {"\u05d0 \u05d1", nil, 0, 0, 2, "{0 2 120 [{0 1488 0 120 1} {1 32 120 60 0}]}"},
	} {
		same(t, fmt.Sprint("case ", i), impl.LineMake(runesOf(c.text), c.list, c.base, c.from, c.to), c.want)
	}
	long := impl.LineMake(repeated('\t', impl.TextMax), spans{span(0, impl.TextMax, impl.SizeMax, 9)}, 0, 0, impl.TextMax)
	same(t, "the widest", []int{long.Wide, len(long.Glyphs), long.Glyphs[79].X}, "[128000 80 126400]")
}

func TestLinesAreMadeByWords(t *testing.T) {
	someLines(1500, func(f filled, base int, from int, to int, d *dice) {
		levels := impl.LineLevels(f.runes, base, from, to)
		want := line(from, to, wideOf(f.runes, f.wides, from, to))
		x, seen := 0, impl.SeenOf(f.runes, base, from, to)
		for i, place := range impl.OrderOf(levels) {
			if at := from + place; place == 0 || impl.ClusterAt(f.runes, at) == at {
				want.Glyphs = append(want.Glyphs, glyph(at, seen[i], x, f.wides[at], levels[place]))
				x += f.wides[at]
			}
		}
		got := impl.LineMake(f.runes, f.list, base, from, to)
		same(t, fmt.Sprint(f.runes, f.list, base, from, to), got, want)
		once := map[int]int{}
		for _, g := range got.Glyphs {
			once[g.At]++
		}
		for at := from; at < to; at++ {
			if once[at] > 1 || f.wides[at] > 0 && once[at] != 1 {
				t.Fatalf("%v: letter %d has %d glyphs", f.runes, at, once[at])
			}
		}
	})
}

func TestNoLinesAreMadeOfWrongThings(t *testing.T) {
	nothing := "{0 0 0 []}"
	for i, runes := range badLetters() {
		same(t, fmt.Sprint("letters ", i), impl.LineMake(runes, nil, 0, 1, 1), nothing)
		same(t, fmt.Sprint("letters ", i), impl.LineMake(runes, nil, 0, 0, 1), nothing)
	}
	for i, list := range wrongSpans() {
		same(t, fmt.Sprint("spans ", i), impl.LineMake(repeated('a', 9), list, 0, 1, 9), nothing)
	}
	for _, base := range []int{-1, 2, least, most} {
		same(t, fmt.Sprint("base ", base), impl.LineMake(runesOf("ab"), nil, base, 1, 2), nothing)
		same(t, fmt.Sprint("base ", base), impl.LineMake(runesOf("ab"), nil, base, 1, 1), nothing)
	}
	for _, c := range wrongPlaces() {
		same(t, fmt.Sprint("line ", c), impl.LineMake(runesOf("abc"), nil, 0, c[0], c[1]), nothing)
	}
}

// wrongPlaces is lines of which none is there among three letters.
func wrongPlaces() [][2]int {
	return [][2]int{{-1, 2}, {-1, -1}, {0, 4}, {2, 1}, {1, 0}, {4, 4}, {3, 4}, {4, 3}, {least, most}, {most, least}, {least, least}, {most, most}, {0, most}, {least, 3}}
}

func xsOf(l impl.Line) []int {
	var xs []int
	for _, g := range l.Glyphs {
		xs = append(xs, g.X)
	}
	return xs
}

// P38: A line that stands otherwise is the same line, moved.
func TestLinesStand(t *testing.T) {
	text := runesOf("ab ")
	plain := line(0, 3, 200, glyph(0, 'a', 0, 100, 0), glyph(1, 'b', 100, 100, 0), glyph(2, ' ', 200, 60, 0))
	for i, c := range []struct {
		base, align, wide int
		want              string
	}{
		{0, impl.AlignStart, 500, "[0 100 200]"}, {0, impl.AlignEnd, 500, "[300 400 500]"}, {0, impl.AlignCentre, 500, "[150 250 350]"}, {0, impl.AlignBoth, 500, "[0 100 200]"},
		{1, impl.AlignStart, 500, "[240 340 440]"}, {1, impl.AlignEnd, 500, "[-60 40 140]"}, {1, impl.AlignCentre, 500, "[90 190 290]"}, {1, impl.AlignBoth, 500, "[240 340 440]"},
		// What is left is odd.
		{0, impl.AlignCentre, 501, "[150 250 350]"}, {0, impl.AlignCentre, 499, "[149 249 349]"}, {0, impl.AlignCentre, 201, "[0 100 200]"}, {0, impl.AlignCentre, 202, "[1 101 201]"}, {1, impl.AlignCentre, 501, "[90 190 290]"}, {1, impl.AlignCentre, 201, "[-60 40 140]"}, {0, impl.AlignEnd, 201, "[1 101 201]"}, {1, impl.AlignStart, 201, "[-59 41 141]"},
		// Nothing is left, or the line is wider.
		{0, impl.AlignEnd, 200, "[0 100 200]"}, {0, impl.AlignEnd, 199, "[0 100 200]"}, {0, impl.AlignCentre, 197, "[0 100 200]"}, {0, impl.AlignEnd, 0, "[0 100 200]"}, {1, impl.AlignStart, 199, "[-60 40 140]"}, {1, impl.AlignEnd, 0, "[-60 40 140]"}, {1, impl.AlignBoth, 0, "[-60 40 140]"}, {1, impl.AlignCentre, 0, "[-60 40 140]"},
		{0, impl.AlignEnd, impl.WideMax, "[19800 19900 20000]"}, {0, impl.AlignCentre, impl.WideMax, "[9900 10000 10100]"},
	} {
		got := impl.LineStand(text, plain, c.base, c.wide, c.align)
		same(t, fmt.Sprint("case ", i), xsOf(got), c.want)
		for j := range got.Glyphs {
			got.Glyphs[j].X = plain.Glyphs[j].X
		}
		same(t, fmt.Sprint("else ", i), got, plain)
	}
	// Wide need not be what the glyphs are together, nor have these to stand side by side or in order.
	odd := line(1, 3, 70, glyph(2, 7, 40, 30, 1), glyph(2, 8, -9, 5, 22), glyph(1, 9, 0, 0, 0))
	same(t, "odd", impl.LineStand(text, odd, 1, 100, impl.AlignStart), "{1 3 70 [{2 7 105 30 1} {2 8 56 5 22} {1 9 65 0 0}]}")
	same(t, "odd", impl.LineStand(text, odd, 0, 100, impl.AlignEnd), "{1 3 70 [{2 7 70 30 1} {2 8 21 5 22} {1 9 30 0 0}]}")
	same(t, "no glyphs", impl.LineStand(text, line(2, 2, 5), 1, 100, impl.AlignStart), "{2 2 5 []}")
	same(t, "no letters", impl.LineStand(nil, line(0, 0, 0), 0, 0, impl.AlignEnd), "{0 0 0 []}")
}

func TestSomeLinesStand(t *testing.T) {
	someLines(700, func(f filled, base int, from int, to int, d *dice) {
		l := impl.LineMake(f.runes, f.list, base, from, to)
		if l.Wide > impl.WideMax {
			return
		}
		for align := impl.AlignStart; align <= impl.AlignBoth; align++ {
			got := impl.LineStand(f.runes, l, base, f.wide, align)
			room := max(f.wide-l.Wide, 0)
			ahead := []int{0, room, room / 2, 0}[align]
			if base == 1 {
				ahead = []int{room, 0, room / 2, room}[align]
				for _, g := range l.Glyphs {
					ahead -= g.Wide
				}
				ahead += l.Wide
			}
			want := line(l.From, l.To, l.Wide, slices.Clone(l.Glyphs)...)
			for i := range want.Glyphs {
				want.Glyphs[i].X += ahead
			}
			same(t, fmt.Sprint(l, base, f.wide, align), got, want)
		}
	})
}

// wrongLines is lines of which none may be one of three letters.
func wrongLines() []impl.Line {
	ok := glyph(1, 'b', 0, 100, 0)
	var lines []impl.Line
	for _, c := range wrongPlaces() {
		lines = append(lines, line(c[0], c[1], 0))
	}
	for _, wide := range []int{-1, impl.WideMax + 1, least, most} {
		lines = append(lines, line(1, 3, wide), line(1, 3, 100, glyph(1, 'b', 0, wide, 0)), line(1, 3, 100, ok, glyph(1, 'b', 0, wide, 0)))
	}
	for _, at := range []int{0, 3, -1, least, most} {
		lines = append(lines, line(1, 3, 100, glyph(at, 'b', 0, 100, 0)), line(1, 3, 100, ok, glyph(at, 'b', 0, 100, 0)))
	}
	for _, x := range []int{-impl.WideMax - 1, 2*impl.WideMax + 1, least, most} {
		lines = append(lines, line(1, 3, 100, glyph(1, 'b', x, 100, 0)), line(1, 3, 100, ok, glyph(1, 'b', x, 100, 0)))
	}
	for _, level := range []int{-1, impl.LevelMax + 3, least, most} {
		lines = append(lines, line(1, 3, 100, glyph(1, 'b', 0, 100, level)), line(1, 3, 100, ok, glyph(1, 'b', 0, 100, level)))
	}
	return append(lines, line(1, 3, 100, slices.Repeat([]impl.Glyph{ok}, impl.TextMax+1)...))
}

// justLines is lines that just may be.
func justLines() []impl.Line {
	return []impl.Line{
		line(0, 3, 0), line(3, 3, 0), line(0, 0, impl.WideMax), line(1, 3, impl.WideMax, glyph(1, -5, -impl.WideMax, impl.WideMax, 0)), line(1, 3, 0, glyph(2, most, 2*impl.WideMax, 0, impl.LevelMax+2)),
		line(0, 3, 100, slices.Repeat([]impl.Glyph{glyph(1, 'b', 0, impl.WideMax, 0)}, impl.TextMax)...),
	}
}

func TestWrongLinesDoNotStand(t *testing.T) {
	text, nothing := runesOf("a b"), "{0 0 0 []}"
	for i, l := range wrongLines() {
		same(t, fmt.Sprint("stand ", i), impl.LineStand(text, l, 0, 500, impl.AlignStart), nothing)
		same(t, fmt.Sprint("spread ", i), impl.LineSpread(text, l, 0), nothing)
		same(t, fmt.Sprint("spread ", i), impl.LineSpread(text, l, 500), nothing)
	}
	for i, l := range justLines() {
		same(t, fmt.Sprint("stands ", i), impl.LineStand(text, l, 0, 0, impl.AlignStart), l)
		same(t, fmt.Sprint("spreads ", i), impl.LineSpread(text, l, 0), l)
	}
	ok := line(1, 3, 160, glyph(1, ' ', 0, 60, 0), glyph(2, 'b', 60, 100, 0))
	for i, runes := range badLetters() {
		same(t, fmt.Sprint("letters ", i), impl.LineStand(runes, line(0, 1, 5), 0, 500, impl.AlignStart), nothing)
		same(t, fmt.Sprint("letters ", i), impl.LineSpread(runes, line(0, 1, 5), 500), nothing)
	}
	for _, n := range []int{-1, 2, 3, least, most} {
		same(t, fmt.Sprint("base ", n), impl.LineStand(text, ok, n, 500, impl.AlignStart), nothing)
	}
	for _, n := range []int{-1, 4, least, most} {
		same(t, fmt.Sprint("align ", n), impl.LineStand(text, ok, 0, 500, n), nothing)
	}
	for _, n := range []int{-1, impl.WideMax + 1, least, most} {
		same(t, fmt.Sprint("wide ", n), impl.LineStand(text, ok, 0, n, impl.AlignStart), nothing)
		same(t, fmt.Sprint("wide ", n), impl.LineSpread(text, ok, n), nothing)
	}
	same(t, "the widest", impl.LineSpread(text, ok, impl.WideMax), "{1 3 20000 [{1 32 0 19900 0} {2 98 19900 100 0}]}")
}

// P39: What a line leaves over is spread among its blanks, to the last bit.
func TestLinesAreSpread(t *testing.T) {
	for i, c := range []struct {
		text       string
		base, wide int
		want       string
	}{
		{"a b", 0, 360, "{0 3 360 [{0 97 0 100 0} {1 32 100 160 0} {2 98 260 100 0}]}"}, {"a b", 0, 261, "{0 3 261 [{0 97 0 100 0} {1 32 100 61 0} {2 98 161 100 0}]}"},
		// More is left than blanks divide: the first ones, as they are written, have one more.
		{"a b c", 0, 423, "{0 5 423 [{0 97 0 100 0} {1 32 100 62 0} {2 98 162 100 0} {3 32 262 61 0} {4 99 323 100 0}]}"}, {"a b c", 0, 421, "{0 5 421 [{0 97 0 100 0} {1 32 100 61 0} {2 98 161 100 0} {3 32 261 60 0} {4 99 321 100 0}]}"},
		{"\u05d0 \u05d1 \u05d2", 1, 483, "{0 5 483 [{4 1490 0 120 1} {3 32 120 61 1} {2 1489 181 120 1} {1 32 301 62 1} {0 1488 363 120 1}]}"}, {"\u05d0 \u05d1 \u05d2", 0, 481, "{0 5 481 [{4 1490 0 120 1} {3 32 120 60 1} {2 1489 180 120 1} {1 32 300 61 1} {0 1488 361 120 1}]}"},
		{"  ab", 0, 325, "{0 4 325 [{0 32 0 63 0} {1 32 63 62 0} {2 97 125 100 0} {3 98 225 100 0}]}"},
		// Blanks that are empty at the end stay as they are, on whatever side.
		{"a b  ", 0, 270, "{0 5 270 [{0 97 0 100 0} {1 32 100 70 0} {2 98 170 100 0} {3 32 270 60 0} {4 32 330 60 0}]}"}, {"\u05d0 \u05d1 ", 1, 310, "{0 4 310 [{3 32 0 60 1} {2 1489 60 120 1} {1 32 180 70 1} {0 1488 250 120 1}]}"}, {"a b \u200b\n", 0, 270, "{0 6 270 [{0 97 0 100 0} {1 32 100 70 0} {2 98 170 100 0} {3 32 270 60 0} {5 10 330 0 0}]}"},
		// No blank to spread among: others that look empty are none.
		{"ab", 0, 360, "{0 2 200 [{0 97 0 100 0} {1 98 100 100 0}]}"}, {"ab ", 0, 360, "{0 3 200 [{0 97 0 100 0} {1 98 100 100 0} {2 32 200 60 0}]}"}, {"a\u00a0b", 0, 900, "{0 3 300 [{0 97 0 100 0} {1 160 100 100 0} {2 98 200 100 0}]}"}, {"   ", 0, 900, "{0 3 0 [{0 32 0 60 0} {1 32 60 60 0} {2 32 120 60 0}]}"}, {"a\tb", 0, 900, "{0 3 600 [{0 97 0 100 0} {1 9 100 400 0} {2 98 500 100 0}]}"},
		// Nothing is left, or less than nothing.
		{"a b", 0, 260, "{0 3 260 [{0 97 0 100 0} {1 32 100 60 0} {2 98 160 100 0}]}"}, {"a b", 0, 259, "{0 3 260 [{0 97 0 100 0} {1 32 100 60 0} {2 98 160 100 0}]}"}, {"a b", 0, 0, "{0 3 260 [{0 97 0 100 0} {1 32 100 60 0} {2 98 160 100 0}]}"},
		// A blank with marks is one.
		{"a \u0301b", 0, 300, "{0 4 300 [{0 97 0 100 0} {1 32 100 100 0} {3 98 200 100 0}]}"},
	} {
		text := runesOf(c.text)
		same(t, fmt.Sprint("case ", i), impl.LineSpread(text, impl.LineMake(text, nil, c.base, 0, len(text)), c.wide), c.want)
	}
	text := runesOf("a b c ")
	// From the first glyph's X on all stand side by side, but only if something is spread.
	moved := line(0, 6, 300, glyph(1, 'x', 50, 10, 0), glyph(0, 'y', -7, 20, 3), glyph(3, 'z', 9, 0, 1), glyph(5, ' ', 0, 60, 0))
	same(t, "moved", impl.LineSpread(text, moved, 305), "{0 6 305 [{1 120 50 13 0} {0 121 63 20 3} {3 122 83 2 1} {5 32 85 60 0}]}")
	same(t, "not moved", impl.LineSpread(text, moved, 300), moved)
	// Of a blank with two glyphs the first is meant; a blank without one has no part.
	twice := line(0, 6, 100, glyph(3, 'x', 0, 10, 0), glyph(0, 'y', 10, 20, 0), glyph(3, 'z', 30, 40, 0))
	same(t, "twice", impl.LineSpread(text, twice, 111), "{0 6 111 [{3 120 0 21 0} {0 121 21 20 0} {3 122 41 40 0}]}")
	same(t, "no glyphs", impl.LineSpread(text, line(0, 6, 100), 500), "{0 6 100 []}")
	// Where a line ends decides what is empty there.
	same(t, "shorter", impl.LineSpread(text, line(0, 4, 100, glyph(1, ' ', 0, 10, 0), glyph(3, ' ', 10, 10, 0)), 105), "{0 4 105 [{1 32 0 15 0} {3 32 15 10 0}]}")
	same(t, "later", impl.LineSpread(text, line(2, 6, 100, glyph(3, ' ', 0, 10, 0), glyph(5, ' ', 10, 10, 0)), 105), "{2 6 105 [{3 32 0 15 0} {5 32 15 10 0}]}")
}

func TestSomeLinesAreSpread(t *testing.T) {
	spread := 0
	someLines(1500, func(f filled, base int, from int, to int, d *dice) {
		l := impl.LineMake(f.runes, f.list, base, from, to)
		if l.Wide > impl.WideMax {
			return
		}
		wide := min(l.Wide+d.below(50), impl.WideMax)
		got := impl.LineSpread(f.runes, l, wide)
		all, x := 0, 0
		more := map[int]int{}
		for i, g := range got.Glyphs {
			old := l.Glyphs[i]
			more[g.At] = g.Wide - old.Wide
			all += more[g.At]
			if g.At != old.At || g.Rune != old.Rune || g.Level != old.Level || g.X != x {
				t.Fatalf("%v: %v", l, got)
			}
			x += g.Wide
		}
		if got.From != from || got.To != to || all != got.Wide-l.Wide || all != 0 && got.Wide != wide {
			t.Fatalf("%v in %d: %v", l, wide, got)
		}
		// By letters: blanks up to the last that is not empty, none by less than one behind it, nor by two more.
		last := -1
		for at := from; at < to; at++ {
			blank := f.runes[at] == ' ' && slices.ContainsFunc(f.runes[at:to], func(r int) bool { return !isEmptyAtEnd(r) })
			if !blank && more[at] != 0 || blank && all == 0 && wide > l.Wide {
				t.Fatalf("%v in %d: %v", l, wide, got)
			}
			if blank && last >= 0 && (more[last] < more[at] || more[last] > more[at]+1) {
				t.Fatalf("%v in %d: %v", l, wide, got)
			}
			if blank {
				last = at
			}
		}
		if all > 0 {
			spread++
		}
	})
	if spread < 300 {
		t.Errorf("%d were spread, too few to tell", spread)
	}
}

type hitCase struct {
	x, at int
	back  bool
}

func checkHits(t *testing.T, l impl.Line, cases []hitCase) {
	t.Helper()
	for _, c := range cases {
		at, back := impl.LineHit(l, c.x)
		same(t, fmt.Sprint("place ", c.x), fmt.Sprint(at, back), fmt.Sprint(c.at, c.back))
	}
}

// P40, P41: Who points at a letter is told that letter, who points beside a line its first or last one.
func TestWhoPointsIsTold(t *testing.T) {
	const far = 2 * impl.WideMax
	even := line(3, 9, 0, glyph(4, 'a', 10, 7, 0), glyph(5, 'b', 17, 8, 2), glyph(6, 'c', 25, 1, 4))
	checkHits(t, even, []hitCase{{-far, 4, false}, {9, 4, false}, {10, 4, false}, {13, 4, false}, {14, 4, true}, {16, 4, true}, {17, 5, false}, {20, 5, false}, {21, 5, true}, {24, 5, true}, {25, 6, false}, {26, 6, true}, {far, 6, true}})
	odd := line(3, 9, 0, glyph(4, 'a', 10, 7, 1), glyph(5, 'b', 17, 8, 3), glyph(6, 'c', 25, 1, 21))
	checkHits(t, odd, []hitCase{{-far, 4, true}, {9, 4, true}, {10, 4, true}, {13, 4, true}, {14, 4, false}, {16, 4, false}, {17, 5, true}, {20, 5, true}, {21, 5, false}, {24, 5, false}, {25, 6, true}, {26, 6, false}, {far, 6, false}})
	// A level may be any number here.
	checkHits(t, line(0, 1, 0, glyph(4, 'a', 0, 10, -1)), []hitCase{{0, 4, true}, {9, 4, false}})
	checkHits(t, line(0, 1, 0, glyph(4, 'a', 0, 10, -2)), []hitCase{{0, 4, false}, {9, 4, true}})
	checkHits(t, line(0, 1, 0, glyph(4, 'a', 0, 10, most)), []hitCase{{0, 4, true}, {9, 4, false}})
	// What is not wide is not hit.
	checkHits(t, line(3, 9, 0, glyph(4, 'a', 0, 0, 0), glyph(5, 'b', 0, 8, 0), glyph(6, 'c', 8, 0, 0), glyph(7, 'd', 8, 8, 0), glyph(8, 'e', 16, 0, 0)), []hitCase{{-far, 5, false}, {0, 5, false}, {7, 5, true}, {8, 7, false}, {16, 7, true}, {far, 7, true}})
	checkHits(t, line(3, 9, 500), []hitCase{{-far, 3, false}, {0, 3, false}, {far, 3, false}})
	checkHits(t, line(3, 9, 500, glyph(4, 'a', 0, 0, 0), glyph(5, 'a', 9, 0, 1)), []hitCase{{0, 3, false}, {9, 3, false}})
	checkHits(t, line(-77, 9, 500, glyph(4, 'a', 0, 0, 0)), []hitCase{{0, -77, false}})
	// Not in order, with gaps, over each other, with one At: the last in the list whose X is not beyond.
	mixed := line(0, 9, 0, glyph(1, 'a', 50, 10, 0), glyph(2, 'b', 20, 10, 0), glyph(2, 'c', 40, 10, 1), glyph(3, 'd', 20, 10, 1))
	checkHits(t, mixed, []hitCase{{19, 1, false}, {20, 3, true}, {25, 3, false}, {45, 3, false}, {55, 3, false}})
	checkHits(t, line(0, 9, 0, glyph(1, 'a', 0, 10, 0), glyph(2, 'b', 100, 10, 0), glyph(3, 'c', 200, 10, 0)), []hitCase{{99, 1, true}, {100, 2, false}, {199, 2, true}, {200, 3, false}})
}

func TestWhoPointsAtSomeLines(t *testing.T) {
	someLines(1500, func(f filled, base int, from int, to int, d *dice) {
		l := impl.LineMake(f.runes, f.list, base, from, to)
		if len(l.Glyphs) > 0 && l.Glyphs[len(l.Glyphs)-1].X > 2*impl.WideMax {
			return
		}
		first, last := -1, -1
		for _, g := range l.Glyphs {
			if g.Wide == 0 {
				continue
			}
			if first < 0 {
				first = g.At
			}
			last = g.At
			begin, end := g.X, g.X+g.Wide-1
			if g.Level%2 == 1 {
				begin, end = end, begin
			}
			if g.Wide < 2 || end > 2*impl.WideMax || begin > 2*impl.WideMax {
				continue
			}
			at, back := impl.LineHit(l, begin)
			same(t, fmt.Sprint("begin of ", g), fmt.Sprint(at, back), fmt.Sprint(g.At, false))
			at, back = impl.LineHit(l, end)
			same(t, fmt.Sprint("end of ", g), fmt.Sprint(at, back), fmt.Sprint(g.At, true))
		}
		if first < 0 {
			first, last = from, from
		}
		left, _ := impl.LineHit(l, -2*impl.WideMax)
		right, _ := impl.LineHit(l, 2*impl.WideMax)
		same(t, fmt.Sprint("beside ", l), []int{left, right}, []int{first, last})
	})
}

func TestWhoPointsWrongly(t *testing.T) {
	const far = 2 * impl.WideMax
	ok := glyph(7, 'a', 0, 10, 0)
	for _, n := range []int{-far - 1, far + 1, least, most} {
		for _, l := range []impl.Line{line(5, 9, 0), line(5, 9, 0, ok)} {
			at, back := impl.LineHit(l, n)
			same(t, fmt.Sprint("place ", n), fmt.Sprint(at, back), "0 false")
		}
		for _, wide := range []int{0, 10} {
			at, back := impl.LineHit(line(5, 9, 0, ok, glyph(8, 'a', n, wide, 0)), 9)
			same(t, fmt.Sprint("X ", n), fmt.Sprint(at, back), "0 false")
		}
	}
	for _, n := range []int{-1, impl.WideMax + 1, least, most} {
		for _, l := range []impl.Line{line(5, 9, 0, ok, glyph(8, 'a', 100, n, 0)), line(5, 9, 0, glyph(8, 'a', 100, n, 0), ok), line(5, 9, 0, glyph(8, 'a', 0, n, 0))} {
			at, back := impl.LineHit(l, 9)
			same(t, fmt.Sprint("wide ", n), fmt.Sprint(at, back), "0 false")
		}
	}
	at, back := impl.LineHit(line(5, 9, 0, slices.Repeat([]impl.Glyph{ok}, impl.TextMax+1)...), 9)
	same(t, "too many", fmt.Sprint(at, back), "0 false")
	at, back = impl.LineHit(line(5, 9, 0, slices.Repeat([]impl.Glyph{ok}, impl.TextMax)...), 9)
	same(t, "just so many", fmt.Sprint(at, back), "7 true")
	edges := line(5, 9, 0, glyph(6, 'a', -far, impl.WideMax, 0), glyph(8, 'b', far, impl.WideMax, 1))
	checkHits(t, edges, []hitCase{{-far, 6, false}, {-far + impl.WideMax/2 - 1, 6, false}, {-far + impl.WideMax/2, 6, true}, {far - 1, 6, true}, {far, 8, true}})
	// Nothing else of a line is asked.
	at, back = impl.LineHit(line(least, most, -1, glyph(most, -1, 0, 10, 99)), 9)
	same(t, "what is not asked", fmt.Sprint(at, back), fmt.Sprint(most, false))
}

// P42: A letter that is read from the left begins on its left, any other one on its right.
func TestWhereLettersBegin(t *testing.T) {
	const far = 2 * impl.WideMax
	l := line(0, 9, 0, glyph(1, 'a', 10, 7, 0), glyph(2, 'b', 17, 8, 1), glyph(3, 'c', 25, 0, 3), glyph(4, 'd', -30, 9, 22), glyph(2, 'e', 50, 9, 2), glyph(1, 'f', 60, 9, 1), glyph(most, 'g', 70, 9, -1), glyph(least, 'h', 80, 9, -2))
	for _, c := range []struct {
		at   int
		want string
	}{{1, "10 true"}, {2, "25 true"}, {3, "25 true"}, {4, "-30 true"}, {most, "79 true"}, {least, "80 true"}, {0, "0 false"}, {5, "0 false"}, {-1, "0 false"}} {
		x, ok := impl.LineCaret(l, c.at)
		same(t, fmt.Sprint("letter ", c.at), fmt.Sprint(x, ok), c.want)
	}
	for i, c := range []struct {
		x, wide int
		want    string
	}{
		{far, impl.WideMax, "60000 true"}, {-far, impl.WideMax, "-20000 true"}, {far, 0, "40000 true"}, {far + 1, 0, "0 false"}, {-far - 1, 0, "0 false"}, {0, -1, "0 false"}, {0, impl.WideMax + 1, "0 false"},
		{least, 0, "0 false"}, {most, 0, "0 false"}, {0, least, "0 false"}, {0, most, "0 false"}, {most, most, "0 false"},
	} {
		l := line(0, 9, 0, glyph(7, 'a', c.x, c.wide, 1), glyph(8, 'b', 5, 6, 0), glyph(7, 'c', 5, 6, 0))
		x, ok := impl.LineCaret(l, 7)
		same(t, fmt.Sprint("case ", i), fmt.Sprint(x, ok), c.want)
		x, ok = impl.LineCaret(l, 8)
		same(t, fmt.Sprint("beside ", i), fmt.Sprint(x, ok), "5 true")
	}
	x, ok := impl.LineCaret(line(0, 9, 0), 0)
	same(t, "no glyphs", fmt.Sprint(x, ok), "0 false")
	someLines(500, func(f filled, base int, from int, to int, d *dice) {
		made := impl.LineMake(f.runes, f.list, base, from, to)
		seen := impl.OrderOf(impl.LineLevels(f.runes, base, from, to))
		for at := from - 1; at <= to; at++ {
			x, ok := impl.LineCaret(made, at)
			want := "0 false"
			for _, g := range made.Glyphs {
				if g.At == at && g.X <= far {
					want = fmt.Sprint(g.X+g.Level%2*g.Wide, true)
				}
			}
			same(t, fmt.Sprint("caret ", at), fmt.Sprint(x, ok), want)
			hasGlyph := slices.Contains(seen, at-from) && (at == from || impl.ClusterAt(f.runes, at) == at)
			if hasGlyph != ok && made.Wide < impl.WideMax {
				t.Fatalf("%v: letter %d", made, at)
			}
		}
	})
}

// exampleLines is the lines of a paragraph, and how they stand, as the document's example tells them.
func exampleLines(text string, list spans, base int, wide int, mode int, align int) string {
	runes, told, from := runesOf(text), "", 0
	for _, to := range impl.FillLines(runes, list, wide, mode) {
		l := impl.LineStand(runes, impl.LineMake(runes, list, base, from, to), base, wide, align)
		if align == impl.AlignBoth && impl.BreaksOf(runes)[to-1] != impl.BreakMust {
			spread := impl.LineSpread(runes, l, wide)
			for i := range spread.Glyphs {
				spread.Glyphs[i].X -= base * (spread.Wide - l.Wide)
			}
			l = spread
		}
		told += fmt.Sprintf("%d to %d, %d wide:", l.From, l.To, l.Wide)
		for _, g := range l.Glyphs {
			told += fmt.Sprintf(" %d@%d", g.At, g.X)
		}
		told += "\n"
		from = to
	}
	return told
}

// The lines of the document's example.
func TestLinesOfTheExample(t *testing.T) {
	text := "the red \u05d0\u05d1\u05d2 (12) of a\u0301b, end"
	same(t, "400 wide", exampleLines(text, nil, 0, 400, impl.FillGreedy, impl.AlignStart), `0 to 4, 260 wide: 0@0 1@60 2@160 3@260
4 to 8, 300 wide: 4@0 5@100 6@200 7@300
8 to 12, 360 wide: 10@0 9@120 8@240 11@360
12 to 17, 400 wide: 15@0 13@100 14@200 12@300 16@400
17 to 20, 160 wide: 17@0 18@100 19@160
20 to 25, 260 wide: 20@0 22@100 23@200 24@260
25 to 28, 300 wide: 25@0 26@100 27@200
`)
	same(t, "900 wide", exampleLines(text, nil, 0, 900, impl.FillGreedy, impl.AlignStart), `0 to 8, 620 wide: 0@0 1@60 2@160 3@260 4@320 5@420 6@520 7@620
8 to 17, 820 wide: 15@0 13@100 14@200 12@300 11@400 10@460 9@580 8@700 16@820
17 to 28, 840 wide: 17@0 18@100 19@160 20@220 22@320 23@420 24@480 25@540 26@640 27@740
`)
	same(t, "from the right", exampleLines(text, nil, 1, 900, impl.FillBest, impl.AlignBoth), `0 to 8, 900 wide: 7@-60 0@0 1@60 2@160 3@260 4@600 5@700 6@800
8 to 17, 900 wide: 16@-60 15@0 13@100 14@200 12@300 11@400 10@540 9@660 8@780
17 to 28, 840 wide: 17@60 18@160 19@220 20@280 22@380 23@480 24@540 25@600 26@700 27@800
`)
	same(t, "sizes", exampleLines(text, spans{span(0, 3, 20, 1)}, 1, 900, impl.FillBest, impl.AlignBoth), `0 to 8, 900 wide: 7@-60 0@0 1@120 2@320 3@520 4@600 5@700 6@800
8 to 17, 900 wide: 16@-60 15@0 13@100 14@200 12@300 11@400 10@540 9@660 8@780
17 to 28, 840 wide: 17@60 18@160 19@220 20@280 22@380 23@480 24@540 25@600 26@700 27@800
`)
	same(t, "cut", exampleLines(" red \u05d0\u05d1\u05d2 (12) of a\u0301b, end", nil, 1, 900, impl.FillBest, impl.AlignBoth), `0 to 9, 900 wide: 8@-60 7@0 6@120 5@240 4@360 1@480 2@580 3@680 0@780
9 to 17, 900 wide: 16@-60 14@0 15@100 13@160 12@500 10@600 11@700 9@800
17 to 25, 620 wide: 17@280 19@380 20@480 21@540 22@600 23@700 24@800
`)
}
