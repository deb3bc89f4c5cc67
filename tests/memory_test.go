package tests

import (
	"fmt"
	"slices"
	"testing"

	"loop.example/colophon/impl"
)

// call is a function of the program with its lists; what it answers is told as lists.
type call struct {
	name string
	do   func(a []int, b []int) [][]int
}

func calls() []call {
	return []call{
		{"Utf8Put", func(a []int, b []int) [][]int { impl.Utf8Put(a); return nil }},
		{"ClusterStarts", func(a []int, b []int) [][]int { return [][]int{impl.ClusterStarts(a)} }},
		{"ClusterAt", func(a []int, b []int) [][]int { impl.ClusterAt(a, 3); return nil }},
		{"ClusterWide", func(a []int, b []int) [][]int { impl.ClusterWide(a, 3); return nil }},
		{"LevelBase", func(a []int, b []int) [][]int { impl.LevelBase(a); return nil }},
		{"LevelsTold", func(a []int, b []int) [][]int {
			levels, classes := impl.LevelsTold(a, 1)
			return [][]int{levels, classes}
		}},
		{"LevelRuns", func(a []int, b []int) [][]int { return impl.LevelRuns(a, 0) }},
		{"LevelWeak", func(a []int, b []int) [][]int { return [][]int{impl.LevelWeak(b, cR)} }},
		{"LevelPlain", func(a []int, b []int) [][]int { return [][]int{impl.LevelPlain(b, cR, cL, 1)} }},
		{"LevelsOf", func(a []int, b []int) [][]int { return [][]int{impl.LevelsOf(a, 0)} }},
		{"LevelMates", func(a []int, b []int) [][]int { return impl.LevelMates(a, b) }},
		{"LineLevels", func(a []int, b []int) [][]int { return [][]int{impl.LineLevels(a, 0, 1, len(a))} }},
		{"OrderOf", func(a []int, b []int) [][]int { return [][]int{impl.OrderOf(b)} }},
		{"OrderBack", func(a []int, b []int) [][]int { return [][]int{impl.OrderBack(b)} }},
		{"RunsOf", func(a []int, b []int) [][]int { impl.RunsOf(b); return nil }},
		{"SeenOf", func(a []int, b []int) [][]int { return [][]int{impl.SeenOf(a, 1, 1, len(a))} }},
		{"BreaksOf", func(a []int, b []int) [][]int { return [][]int{impl.BreaksOf(a)} }},
		{"WordsOf", func(a []int, b []int) [][]int { return [][]int{impl.WordsOf(a)} }},
		{"WidesOf", func(a []int, b []int) [][]int { return [][]int{impl.WidesOf(a, nil)} }},
		{"LineWide", func(a []int, b []int) [][]int { impl.LineWide(a, b, 0, len(a)); return nil }},
		{"FillLines, greedy", func(a []int, b []int) [][]int { return [][]int{impl.FillLines(a, nil, 300, impl.FillGreedy)} }},
		{"FillLines, best", func(a []int, b []int) [][]int { return [][]int{impl.FillLines(a, nil, 900, impl.FillBest)} }},
		{"FillCost", func(a []int, b []int) [][]int { impl.FillCost(a, nil, 300, b); return nil }},
		{"FillFits", func(a []int, b []int) [][]int { impl.FillFits(a, nil, 300, b); return nil }},
	}
}

const mark = -987654321

// roomy is a list with marked room behind its end.
func roomy(list []int) []int {
	return joined(list, repeated(mark, 100))[:len(list)]
}

func whole(list []int) []int {
	return list[:cap(list)]
}

// checkMemory writes all over an answer, list by list, spare room included: nothing else may change by that.
func checkMemory(t *testing.T, c call, a []int, b []int) {
	t.Helper()
	a, b = roomy(a), roomy(b)
	wholeA, wholeB := slices.Clone(whole(a)), slices.Clone(whole(b))
	answer := c.do(a, b)
	told := fmt.Sprint(answer)
	for i, list := range answer {
		var others []string
		for _, other := range answer[i+1:] {
			others = append(others, fmt.Sprint(whole(other)))
		}
		for j := range whole(list) {
			whole(list)[j] = mark + 1
		}
		for j, other := range answer[i+1:] {
			if fmt.Sprint(whole(other)) != others[j] {
				t.Fatalf("%s: two lists of one answer share memory", c.name)
			}
		}
	}
	if !slices.Equal(whole(a), wholeA) || !slices.Equal(whole(b), wholeB) {
		t.Fatalf("%s: an argument is not as it was", c.name)
	}
	if again := fmt.Sprint(c.do(a, b)); again != told {
		t.Fatalf("%s: %s, and again %s", c.name, told, again)
	}
}

func TestMemoryOfAnswers(t *testing.T) {
	text := runesOf("a(\u2067\u05d0[1]\u2069b)\u202b{c}\u202c \u2067x\u2069")
	classes := repeated(cON, len(text))
	for _, c := range calls() {
		checkMemory(t, c, text, classes)
		if answer := c.do(text, classes); (c.name == "LevelRuns" || c.name == "LevelMates") && len(answer) < 3 {
			t.Errorf("%s: %v has too few lists to tell", c.name, answer)
		}
	}
	someTexts(300, func(runes []int) {
		list := make([]int, len(runes))
		for i := range list {
			list[i] = 1 + (runes[i]+i)%22
		}
		for _, c := range calls() {
			checkMemory(t, c, runes, list)
		}
	})
}

func TestMemoryOfRuns(t *testing.T) {
	levels := roomy([]int{0, 1, 1, -1, 2, 0})
	before := slices.Clone(whole(levels))
	runs := impl.RunsOf(levels)
	told := fmt.Sprint(runs)
	for i := range runs[:cap(runs)] {
		runs[:cap(runs)][i] = impl.Run{From: mark, To: mark, Level: mark}
	}
	if !slices.Equal(whole(levels), before) {
		t.Error("the levels are not as they were")
	}
	same(t, "again", impl.RunsOf(levels), told)
}

// spanCalls is the functions with spans; what they answer are spans, or nothing of that kind.
func spanCalls() []func(list spans, count int, n int) spans {
	return []func(list spans, count int, n int) spans{
		func(list spans, count int, n int) spans { impl.SpansOk(list, count); return nil },
		func(list spans, count int, n int) spans { impl.SpanAt(list, n); return nil },
		func(list spans, count int, n int) spans { return impl.SpansPlain(list, count) },
		func(list spans, count int, n int) spans { return impl.SpansMove(list, count, n, 1) },
		func(list spans, count int, n int) spans { return impl.SpansMove(list, count, 1, -n) },
		func(list spans, count int, n int) spans { return impl.SpansMove(list, count, 2, 0) },
		func(list spans, count int, n int) spans {
			put, _ := impl.SpansPut(list, count, span(n, n+1, 5, 1))
			return put
		},
		func(list spans, count int, n int) spans { impl.WidesOf(repeated('a', 9), list); return nil },
		func(list spans, count int, n int) spans {
			impl.FillLines(runesOf("aaa bb cc"), list, 400, n)
			return nil
		},
		func(list spans, count int, n int) spans {
			impl.FillCost(runesOf("aaa bb cc"), list, n, []int{4, 9})
			return nil
		},
		func(list spans, count int, n int) spans {
			impl.FillFits(runesOf("aaa bb cc"), list, n, []int{4, 9})
			return nil
		},
		func(list spans, count int, n int) spans {
			impl.LineMake(runesOf("aaa bb cc"), list, n, 0, 9)
			return nil
		},
	}
}

func TestMemoryOfSpans(t *testing.T) {
	odd := []int{-1 << 63, -1, 0, 1, 2, 8, 9, 80, 81, 1<<63 - 1}
	for _, list := range append(wrongSpans(), nil, spans{span(1, 3, 20, 1), span(4, 6, 5, 2)}, manySpans(12), manySpans(13)) {
		room := slices.Repeat(spans{span(mark, mark, mark, mark)}, 30)
		copy(room, list)
		list = room[:len(list)]
		before := slices.Clone(room)
		for i, do := range spanCalls() {
			for _, count := range odd {
				for _, n := range odd {
					answer := do(list, count, n)
					told := fmt.Sprint(answer)
					for j := range answer[:cap(answer)] {
						answer[:cap(answer)][j] = span(mark+1, mark+1, mark+1, mark+1)
					}
					if !slices.Equal(room, before) {
						t.Fatalf("call %d of %v: the spans are not as they were", i, before[:len(list)])
					}
					same(t, "again", do(list, count, n), told)
				}
			}
		}
	}
}

// lineCalls is the functions of lines; what they answer are lines, or nothing of that kind.
func lineCalls() []func(runes []int, l impl.Line, n int, m int) impl.Line {
	return []func(runes []int, l impl.Line, n int, m int) impl.Line{
		func(runes []int, l impl.Line, n int, m int) impl.Line { return impl.LineMake(runes, nil, 1, n, m) },
		func(runes []int, l impl.Line, n int, m int) impl.Line { return impl.LineMake(runes, nil, n, 0, m) },
		func(runes []int, l impl.Line, n int, m int) impl.Line { return impl.LineStand(runes, l, 0, n, m) },
		func(runes []int, l impl.Line, n int, m int) impl.Line { return impl.LineStand(runes, l, m, n, 0) },
		func(runes []int, l impl.Line, n int, m int) impl.Line { return impl.LineSpread(runes, l, n) },
		func(runes []int, l impl.Line, n int, m int) impl.Line { impl.LineHit(l, n); return impl.Line{} },
		func(runes []int, l impl.Line, n int, m int) impl.Line { impl.LineCaret(l, n); return impl.Line{} },
	}
}

// oddLines is lines of three letters that are ok, just ok, and wrong.
func oddLines() []impl.Line {
	ok := line(0, 3, 260, glyph(0, 'a', 0, 100, 0), glyph(1, ' ', 100, 60, 0), glyph(2, 'b', 160, 100, 0))
	wrong := line(least, most, least, glyph(least, most, most, most, most), glyph(most, least, least, least, least))
	return append(append(justLines(), wrongLines()...), impl.Line{}, ok, wrong)
}

func TestMemoryOfLines(t *testing.T) {
	odd := []int{least, -1, 0, 1, 2, 3, 4, 500, impl.WideMax, impl.WideMax + 1, 2 * impl.WideMax, most}
	marked := glyph(mark, mark, mark, mark, mark)
	runes := roomy(runesOf("a b"))
	letters := slices.Clone(whole(runes))
	for _, l := range oddLines() {
		room := append(slices.Clone(l.Glyphs), slices.Repeat([]impl.Glyph{marked}, 10)...)
		before := slices.Clone(room)
		l.Glyphs = room[:len(l.Glyphs)]
		for i, do := range lineCalls() {
			for _, n := range odd {
				for _, m := range odd {
					answer := do(runes, l, n, m)
					told := fmt.Sprint(answer)
					for j := range answer.Glyphs[:cap(answer.Glyphs)] {
						answer.Glyphs[:cap(answer.Glyphs)][j] = marked
					}
					if !slices.Equal(room, before) || !slices.Equal(whole(runes), letters) {
						t.Fatalf("call %d of %v: an argument is not as it was", i, before[:len(l.Glyphs)])
					}
					same(t, "again", do(runes, l, n, m), told)
				}
			}
		}
	}
}

func TestMemoryOfLetters(t *testing.T) {
	first, _ := impl.Utf8Get("a\u05d0b")
	second, _ := impl.Utf8Get("a\u05d0b")
	for i := range whole(first) {
		whole(first)[i] = mark
	}
	same(t, "letters", second, []int{'a', 1488, 'b'})
}

// Whatever is handed in, there is an answer.
func TestNoCallPanics(t *testing.T) {
	odd := []int{-1 << 63, -2, -1, 0, 1, 2, 3, 22, 23, 79, 80, 81, 55296, 1114112, 1<<63 - 1}
	lists := append(badLetters(), nil, odd, []int{}, sampleLetters(), repeated(0, 80), repeated(22, 80), repeated(23, 3))
	for _, a := range lists {
		for _, b := range lists {
			for _, c := range calls() {
				checkMemory(t, c, a[:min(len(a), 200)], b[:min(len(b), 200)])
			}
		}
		for _, n := range odd {
			impl.ClusterAt(a, n)
			impl.ClusterWide(a, n)
			impl.LevelsTold(a, n)
			impl.LevelRuns(a, n)
			impl.LevelsOf(a, n)
			impl.LevelWeak(a, n)
			impl.RuneWide(n)
			impl.RuneLine(n)
			for _, m := range odd {
				impl.LevelPlain(a, 1, m, n)
				impl.LevelPlain(a, n, m, 1)
				impl.LineLevels(a, 0, n, m)
				impl.SeenOf(a, 1, n, m)
				impl.LineWide(a, repeated(1, len(a)), n, m)
				impl.LineMake(a, nil, 1, n, m)
				impl.FillLines(a, nil, n, m)
				impl.FillCost(a, nil, 100, []int{n, m})
				impl.FillFits(a, nil, n, []int{m})
			}
		}
	}
}
