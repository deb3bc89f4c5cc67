package tests

import (
	"fmt"
	"slices"
	"strings"
	"testing"

	"loop.example/colophon/impl"
)

// call is a function of the program with its lists; what it answers is told as lists.
type call struct {
	name string
	do   func(a []int, b []int) [][]int
}

func calls() []call {
	return []call{
		{"Utf8Put", func(a []int, b []int) [][]int { impl.Utf8Put(a); return nil }},
		{"ClusterStarts", func(a []int, b []int) [][]int { return [][]int{impl.ClusterStarts(a)} }},
		{"ClusterAt", func(a []int, b []int) [][]int { impl.ClusterAt(a, 3); return nil }},
		{"ClusterWide", func(a []int, b []int) [][]int { impl.ClusterWide(a, 3); return nil }},
		{"LevelBase", func(a []int, b []int) [][]int { impl.LevelBase(a); return nil }},
		{"LevelsTold", func(a []int, b []int) [][]int {
			levels, classes := impl.LevelsTold(a, 1)
			return [][]int{levels, classes}
		}},
		{"LevelRuns", func(a []int, b []int) [][]int { return impl.LevelRuns(a, 0) }},
		{"LevelWeak", func(a []int, b []int) [][]int { return [][]int{impl.LevelWeak(b, cR)} }},
		{"LevelPlain", func(a []int, b []int) [][]int { return [][]int{impl.LevelPlain(b, cR, cL, 1)} }},
		{"LevelsOf", func(a []int, b []int) [][]int { return [][]int{impl.LevelsOf(a, 0)} }},
		{"LevelMates", func(a []int, b []int) [][]int { return impl.LevelMates(a, b) }},
		{"LineLevels", func(a []int, b []int) [][]int { return [][]int{impl.LineLevels(a, 0, 1, len(a))} }},
		{"OrderOf", func(a []int, b []int) [][]int { return [][]int{impl.OrderOf(b)} }},
		{"OrderBack", func(a []int, b []int) [][]int { return [][]int{impl.OrderBack(b)} }},
		{"RunsOf", func(a []int, b []int) [][]int { impl.RunsOf(b); return nil }},
		{"SeenOf", func(a []int, b []int) [][]int { return [][]int{impl.SeenOf(a, 1, 1, len(a))} }},
		{"BreaksOf", func(a []int, b []int) [][]int { return [][]int{impl.BreaksOf(a)} }},
		{"WordsOf", func(a []int, b []int) [][]int { return [][]int{impl.WordsOf(a)} }},
		{"WidesOf", func(a []int, b []int) [][]int { return [][]int{impl.WidesOf(a, nil)} }},
		{"LineWide", func(a []int, b []int) [][]int { impl.LineWide(a, b, 0, len(a)); return nil }},
		{"FillLines, greedy", func(a []int, b []int) [][]int { return [][]int{impl.FillLines(a, nil, 300, impl.FillGreedy)} }},
		{"FillLines, best", func(a []int, b []int) [][]int { return [][]int{impl.FillLines(a, nil, 900, impl.FillBest)} }},
		{"FillCost", func(a []int, b []int) [][]int { impl.FillCost(a, nil, 300, b); return nil }},
		{"FillFits", func(a []int, b []int) [][]int { impl.FillFits(a, nil, 300, b); return nil }},
		{"WordStarts", func(a []int, b []int) [][]int { return [][]int{impl.WordStarts(a)} }},
		{"WordAt", func(a []int, b []int) [][]int { impl.WordAt(a, 3); return nil }},
		{"WordCount", func(a []int, b []int) [][]int { impl.WordCount(a); return nil }},
		{"ScriptsOf", func(a []int, b []int) [][]int { return [][]int{impl.ScriptsOf(a)} }},
		{"ScriptRuns", func(a []int, b []int) [][]int { impl.ScriptRuns(a); return nil }},
	}
}

const mark = -987654321

// roomy is a list with marked room behind its end.
func roomy(list []int) []int {
	return joined(list, repeated(mark, 100))[:len(list)]
}

func whole(list []int) []int {
	return list[:cap(list)]
}

// checkMemory writes all over an answer, list by list, spare room included: nothing else may change by that.
func checkMemory(t *testing.T, c call, a []int, b []int) {
	t.Helper()
	a, b = roomy(a), roomy(b)
	wholeA, wholeB := slices.Clone(whole(a)), slices.Clone(whole(b))
	answer := c.do(a, b)
	told := fmt.Sprint(answer)
	for i, list := range answer {
		var others []string
		for _, other := range answer[i+1:] {
			others = append(others, fmt.Sprint(whole(other)))
		}
		for j := range whole(list) {
			whole(list)[j] = mark + 1
		}
		for j, other := range answer[i+1:] {
			if fmt.Sprint(whole(other)) != others[j] {
				t.Fatalf("%s: two lists of one answer share memory", c.name)
			}
		}
	}
	if !slices.Equal(whole(a), wholeA) || !slices.Equal(whole(b), wholeB) {
		t.Fatalf("%s: an argument is not as it was", c.name)
	}
	if again := fmt.Sprint(c.do(a, b)); again != told {
		t.Fatalf("%s: %s, and again %s", c.name, told, again)
	}
}

func TestMemoryOfAnswers(t *testing.T) {
	text := runesOf("a(\u2067\u05d0[1]\u2069b)\u202b{c}\u202c \u2067x\u2069")
	classes := repeated(cON, len(text))
	for _, c := range calls() {
		checkMemory(t, c, text, classes)
		if answer := c.do(text, classes); (c.name == "LevelRuns" || c.name == "LevelMates") && len(answer) < 3 {
			t.Errorf("%s: %v has too few lists to tell", c.name, answer)
		}
	}
	someTexts(300, func(runes []int) {
		list := make([]int, len(runes))
		for i := range list {
			list[i] = 1 + (runes[i]+i)%22
		}
		for _, c := range calls() {
			checkMemory(t, c, runes, list)
		}
	})
}

// markRuns writes all over runs, spare room included.
func markRuns(list runs) {
	for i := range list[:cap(list)] {
		list[:cap(list)][i] = run(mark, mark, mark)
	}
}

func TestMemoryOfRuns(t *testing.T) {
	levels, letters := roomy([]int{0, 1, 1, -1, 2, 0}), roomy(runesOf("a(\u05d0)1\u4e00"))
	beforeLevels, beforeLetters := slices.Clone(whole(levels)), slices.Clone(whole(letters))
	told := fmt.Sprint(impl.RunsOf(levels), impl.ScriptRuns(letters))
	markRuns(impl.RunsOf(levels))
	markRuns(impl.ScriptRuns(letters))
	if !slices.Equal(whole(levels), beforeLevels) || !slices.Equal(whole(letters), beforeLetters) {
		t.Error("the levels or letters are not as they were")
	}
	same(t, "again", fmt.Sprint(impl.RunsOf(levels), impl.ScriptRuns(letters)), told)
}

func TestMemoryOfRunsThatAreCut(t *testing.T) {
	lists := slices.Concat(brokenRuns(), otherRuns(), []runs{{run(0, 5, 1)}, {run(0, 2, 1), run(2, 5, 0)}, {run(0, 3, 4), run(3, 4, 4), run(4, 5, 2)}})
	withRoom := func(list runs) runs {
		return append(slices.Clone(list), slices.Repeat(runs{run(mark, mark, mark)}, 9)...)
	}
	for _, a := range lists {
		for _, b := range lists {
			roomA, roomB := withRoom(a), withRoom(b)
			do := func() runs { return impl.RunsCut(roomA[:len(a)], roomB[:len(b)]) }
			cut := do()
			told := fmt.Sprint(cut)
			for i := range cut[:cap(cut)] {
				cut[:cap(cut)][i] = run(mark+1, mark+1, mark+1)
			}
			if !slices.Equal(roomA, withRoom(a)) || !slices.Equal(roomB, withRoom(b)) {
				t.Fatalf("cut of %v and %v: these are not as they were", a, b)
			}
			same(t, "again", do(), told)
		}
	}
}

// spanCalls is the functions with spans; what they answer are spans, or nothing of that kind.
func spanCalls() []func(list spans, count int, n int) spans {
	return []func(list spans, count int, n int) spans{
		func(list spans, count int, n int) spans { impl.SpansOk(list, count); return nil },
		func(list spans, count int, n int) spans { impl.SpanAt(list, n); return nil },
		func(list spans, count int, n int) spans { return impl.SpansPlain(list, count) },
		func(list spans, count int, n int) spans { return impl.SpansMove(list, count, n, 1) },
		func(list spans, count int, n int) spans { return impl.SpansMove(list, count, 1, -n) },
		func(list spans, count int, n int) spans { return impl.SpansMove(list, count, 2, 0) },
		func(list spans, count int, n int) spans {
			put, _ := impl.SpansPut(list, count, span(n, n+1, 5, 1))
			return put
		},
		func(list spans, count int, n int) spans { impl.WidesOf(repeated('a', 9), list); return nil },
		func(list spans, count int, n int) spans {
			impl.FillLines(runesOf("aaa bb cc"), list, 400, n)
			return nil
		},
		func(list spans, count int, n int) spans {
			impl.FillCost(runesOf("aaa bb cc"), list, n, []int{4, 9})
			return nil
		},
		func(list spans, count int, n int) spans {
			impl.FillFits(runesOf("aaa bb cc"), list, n, []int{4, 9})
			return nil
		},
		func(list spans, count int, n int) spans {
			impl.LineMake(runesOf("aaa bb cc"), list, n, 0, 9)
			return nil
		},
	}
}

func TestMemoryOfSpans(t *testing.T) {
	odd := []int{-1 << 63, -1, 0, 1, 2, 8, 9, 80, 81, 1<<63 - 1}
	for _, list := range append(wrongSpans(), nil, spans{span(1, 3, 20, 1), span(4, 6, 5, 2)}, manySpans(12), manySpans(13)) {
		room := slices.Repeat(spans{span(mark, mark, mark, mark)}, 30)
		copy(room, list)
		list = room[:len(list)]
		before := slices.Clone(room)
		for i, do := range spanCalls() {
			for _, count := range odd {
				for _, n := range odd {
					answer := do(list, count, n)
					told := fmt.Sprint(answer)
					for j := range answer[:cap(answer)] {
						answer[:cap(answer)][j] = span(mark+1, mark+1, mark+1, mark+1)
					}
					if !slices.Equal(room, before) {
						t.Fatalf("call %d of %v: the spans are not as they were", i, before[:len(list)])
					}
					same(t, "again", do(list, count, n), told)
				}
			}
		}
	}
}

// lineCalls is the functions of lines; what they answer are lines, or nothing of that kind.
func lineCalls() []func(runes []int, l impl.Line, n int, m int) impl.Line {
	return []func(runes []int, l impl.Line, n int, m int) impl.Line{
		func(runes []int, l impl.Line, n int, m int) impl.Line { return impl.LineMake(runes, nil, 1, n, m) },
		func(runes []int, l impl.Line, n int, m int) impl.Line { return impl.LineMake(runes, nil, n, 0, m) },
		func(runes []int, l impl.Line, n int, m int) impl.Line { return impl.LineStand(runes, l, 0, n, m) },
		func(runes []int, l impl.Line, n int, m int) impl.Line { return impl.LineStand(runes, l, m, n, 0) },
		func(runes []int, l impl.Line, n int, m int) impl.Line { return impl.LineSpread(runes, l, n) },
		func(runes []int, l impl.Line, n int, m int) impl.Line { impl.LineHit(l, n); return impl.Line{} },
		func(runes []int, l impl.Line, n int, m int) impl.Line { impl.LineCaret(l, n); return impl.Line{} },
	}
}

// oddLines is lines of three letters that are ok, just ok, and wrong.
func oddLines() []impl.Line {
	ok := line(0, 3, 260, glyph(0, 'a', 0, 100, 0), glyph(1, ' ', 100, 60, 0), glyph(2, 'b', 160, 100, 0))
	wrong := line(least, most, least, glyph(least, most, most, most, most), glyph(most, least, least, least, least))
	return append(append(justLines(), wrongLines()...), impl.Line{}, ok, wrong)
}

func TestMemoryOfLines(t *testing.T) {
	odd := []int{least, -1, 0, 1, 2, 3, 4, 500, impl.WideMax, impl.WideMax + 1, 2 * impl.WideMax, most}
	marked := glyph(mark, mark, mark, mark, mark)
	runes := roomy(runesOf("a b"))
	letters := slices.Clone(whole(runes))
	for _, l := range oddLines() {
		room := append(slices.Clone(l.Glyphs), slices.Repeat([]impl.Glyph{marked}, 10)...)
		before := slices.Clone(room)
		l.Glyphs = room[:len(l.Glyphs)]
		for i, do := range lineCalls() {
			for _, n := range odd {
				for _, m := range odd {
					answer := do(runes, l, n, m)
					told := fmt.Sprint(answer)
					for j := range answer.Glyphs[:cap(answer.Glyphs)] {
						answer.Glyphs[:cap(answer.Glyphs)][j] = marked
					}
					if !slices.Equal(room, before) || !slices.Equal(whole(runes), letters) {
						t.Fatalf("call %d of %v: an argument is not as it was", i, before[:len(l.Glyphs)])
					}
					same(t, "again", do(runes, l, n, m), told)
				}
			}
		}
	}
}

func TestMemoryOfLetters(t *testing.T) {
	first, _ := impl.Utf8Get("a\u05d0b")
	second, _ := impl.Utf8Get("a\u05d0b")
	for i := range whole(first) {
		whole(first)[i] = mark
	}
	same(t, "letters", second, []int{'a', 1488, 'b'})
}

// Whatever is handed in, there is an answer.
func TestNoCallPanics(t *testing.T) {
	odd := []int{-1 << 63, -2, -1, 0, 1, 2, 3, 22, 23, 79, 80, 81, 55296, 1114112, 1<<63 - 1}
	lists := append(badLetters(), nil, odd, []int{}, sampleLetters(), repeated(0, 80), repeated(22, 80), repeated(23, 3))
	for _, a := range lists {
		for _, b := range lists {
			for _, c := range calls() {
				checkMemory(t, c, a[:min(len(a), 200)], b[:min(len(b), 200)])
			}
		}
		for _, n := range odd {
			impl.ClusterAt(a, n)
			impl.ClusterWide(a, n)
			impl.LevelsTold(a, n)
			impl.LevelRuns(a, n)
			impl.LevelsOf(a, n)
			impl.LevelWeak(a, n)
			impl.RuneWide(n)
			impl.RuneLine(n)
			impl.RuneScript(n)
			impl.WordAt(a, n)
			for _, m := range odd {
				impl.LevelPlain(a, 1, m, n)
				impl.LevelPlain(a, n, m, 1)
				impl.LineLevels(a, 0, n, m)
				impl.SeenOf(a, 1, n, m)
				impl.LineWide(a, repeated(1, len(a)), n, m)
				impl.LineMake(a, nil, 1, n, m)
				impl.FillLines(a, nil, n, m)
				impl.FillCost(a, nil, 100, []int{n, m})
				impl.FillFits(a, nil, n, []int{m})
			}
		}
	}
}

// paraAnswer is what a function of paragraphs answers, as far as it is lists.
type paraAnswer struct {
	lines []impl.Line
	rects []impl.Rect
	para  impl.Para
}

// paraCalls is the functions of paragraphs.
func paraCalls() []func(p impl.Para, n int, m int) paraAnswer {
	return []func(p impl.Para, n int, m int) paraAnswer{
		func(p impl.Para, n int, m int) paraAnswer { impl.ParaCheck(p); return paraAnswer{} },
		func(p impl.Para, n int, m int) paraAnswer {
			lines, _ := impl.ParaLines(p)
			return paraAnswer{lines: lines}
		},
		func(p impl.Para, n int, m int) paraAnswer { impl.ParaHit(p, n, m); return paraAnswer{} },
		func(p impl.Para, n int, m int) paraAnswer { impl.ParaCaret(p, n); return paraAnswer{} },
		func(p impl.Para, n int, m int) paraAnswer { return paraAnswer{rects: impl.ParaRects(p, n, m)} },
		func(p impl.Para, n int, m int) paraAnswer {
			put, _ := impl.ParaPut(p, n, "")
			return paraAnswer{para: put}
		},
		func(p impl.Para, n int, m int) paraAnswer {
			put, _ := impl.ParaPut(p, n, "x")
			return paraAnswer{para: put}
		},
		func(p impl.Para, n int, m int) paraAnswer {
			cut, _ := impl.ParaCut(p, n, m)
			return paraAnswer{para: cut}
		},
		func(p impl.Para, n int, m int) paraAnswer {
			styled, _ := impl.ParaStyle(p, span(n, m, 20, 1))
			return paraAnswer{para: styled}
		},
		func(p impl.Para, n int, m int) paraAnswer {
			styled, _ := impl.ParaStyle(p, span(1, 2, n, m))
			return paraAnswer{para: styled}
		},
		func(p impl.Para, n int, m int) paraAnswer { impl.ParaShow(p); return paraAnswer{} },
		func(p impl.Para, n int, m int) paraAnswer { impl.MoveLeft(p, n); return paraAnswer{} },
		func(p impl.Para, n int, m int) paraAnswer { impl.MoveRight(p, n); return paraAnswer{} },
		func(p impl.Para, n int, m int) paraAnswer { impl.MoveLine(p, n, m); return paraAnswer{} },
		func(p impl.Para, n int, m int) paraAnswer { impl.MoveHome(p, n); return paraAnswer{} },
		func(p impl.Para, n int, m int) paraAnswer {
			trimmed, _ := impl.ParaTrim(p, n)
			return paraAnswer{para: trimmed}
		},
	}
}

func wholeGlyphs(l impl.Line) []impl.Glyph {
	return l.Glyphs[:cap(l.Glyphs)]
}

// markAll writes all over an answer, spare room included, and says whether a list of it changed by that ahead of its turn.
func (a paraAnswer) markAll() bool {
	shared := false
	for i, l := range a.lines {
		var others []string
		for _, other := range a.lines[i+1:] {
			others = append(others, fmt.Sprint(wholeGlyphs(other)))
		}
		for j := range wholeGlyphs(l) {
			wholeGlyphs(l)[j] = glyph(mark, mark, mark, mark, mark)
		}
		for j, other := range a.lines[i+1:] {
			shared = shared || fmt.Sprint(wholeGlyphs(other)) != others[j]
		}
	}
	for i := range a.lines[:cap(a.lines)] {
		a.lines[:cap(a.lines)][i] = line(mark, mark, mark)
	}
	for i := range a.rects[:cap(a.rects)] {
		a.rects[:cap(a.rects)][i] = impl.Rect{Line: mark, X: mark, Wide: mark}
	}
	for i := range a.para.Spans[:cap(a.para.Spans)] {
		a.para.Spans[:cap(a.para.Spans)][i] = span(mark+1, mark+1, mark+1, mark+1)
	}
	return shared
}

// oddParas is paragraphs that are ok and such as are not.
func oddParas() []impl.Para {
	list := []impl.Para{{}, para("", 2, 300, 1, 3)}
	for align := impl.AlignStart; align <= impl.AlignBoth; align++ {
		list = append(list, para("a b \u05d0\u05d1 c\u0301 d\nef", align%3, 400, align%2, align, span(0, 2, 10, 0), span(3, 5, 20, 1), span(5, 6, 20, 1)), para("ab cd ef", align%2, 250, 0, align, manySpans(8)...))
	}
	for _, c := range wrongParas() {
		list = append(list, c.p)
	}
	for _, wrong := range wrongSpans() {
		list = append(list, para("abc def g", 0, 300, 0, 0, wrong...))
	}
	return append(list, para(textOf(repeated(' ', 80)), 1, 0, 1, 3, manySpans(12)...), impl.Para{Text: "\xff", Base: least, Wide: most, Mode: least, Align: most})
}

func TestMemoryOfParagraphs(t *testing.T) {
	odd := []int{least, -1, 0, 1, 2, 8, 9, 80, 81, impl.WideMax, most}
	for _, p := range oddParas() {
		room := slices.Repeat(spans{span(mark, mark, mark, mark)}, 30)
		copy(room, p.Spans)
		p.Spans = room[:len(p.Spans)]
		before := slices.Clone(room)
		for i, do := range paraCalls() {
			for _, n := range odd {
				for _, m := range odd {
					answer := do(p, n, m)
					told := fmt.Sprintf("%+v", answer)
					if answer.markAll() {
						t.Fatalf("call %d of %+v: two lists of one answer share memory", i, p)
					}
					if !slices.Equal(room, before) {
						t.Fatalf("call %d of %+v: the spans are not as they were", i, p)
					}
					same(t, "again", fmt.Sprintf("%+v", do(p, n, m)), told)
				}
			}
		}
	}
}

// docAnswer is what a function of documents answers, as far as it is lists.
type docAnswer struct {
	places []impl.Place
	pages  []int
	doc    impl.Doc
}

// docCalls is the functions of documents.
func docCalls() []func(d impl.Doc, n int, m int) docAnswer {
	return []func(d impl.Doc, n int, m int) docAnswer{
		func(d impl.Doc, n int, m int) docAnswer { impl.DocOk(d); return docAnswer{} },
		func(d impl.Doc, n int, m int) docAnswer { return docAnswer{places: impl.DocPlaces(d)} },
		func(d impl.Doc, n int, m int) docAnswer { impl.DocHigh(d); return docAnswer{} },
		func(d impl.Doc, n int, m int) docAnswer { impl.DocHit(d, n, m); return docAnswer{} },
		func(d impl.Doc, n int, m int) docAnswer { return docAnswer{pages: impl.DocPages(d, n)} },
		func(d impl.Doc, n int, m int) docAnswer {
			split, _ := impl.DocSplit(d, n, m)
			return docAnswer{doc: split}
		},
		func(d impl.Doc, n int, m int) docAnswer {
			joined, _ := impl.DocJoin(d, n)
			return docAnswer{doc: joined}
		},
		func(d impl.Doc, n int, m int) docAnswer { impl.DocText(d); return docAnswer{} },
	}
}

// wholeParas is a document's paragraphs, spare room included.
func wholeParas(d impl.Doc) []impl.Para {
	return d.Paras[:cap(d.Paras)]
}

func wholeSpans(p impl.Para) spans {
	return p.Spans[:cap(p.Spans)]
}

// toldOfDoc tells all of a document, spare room included.
func toldOfDoc(d impl.Doc) string {
	told := fmt.Sprint(d.Gap)
	for _, p := range wholeParas(d) {
		told += fmt.Sprintf("%+v %v", p, wholeSpans(p))
	}
	return told
}

// markAll writes all over an answer, and says whether a list of it changed by that ahead of its turn.
func (a docAnswer) markAll() bool {
	shared := false
	for i := range a.places[:cap(a.places)] {
		a.places[:cap(a.places)][i] = impl.Place{Para: mark, Line: mark, Y: mark, High: mark}
	}
	for i := range whole(a.pages) {
		whole(a.pages)[i] = mark
	}
	paras := wholeParas(a.doc)
	for i, p := range paras {
		rest := toldOfDoc(impl.Doc{Paras: paras[i+1:]})
		for j := range wholeSpans(p) {
			wholeSpans(p)[j] = span(mark+1, mark+1, mark+1, mark+1)
		}
		paras[i] = para("marked", mark, mark, mark, mark)
		shared = shared || toldOfDoc(impl.Doc{Paras: paras[i+1:]}) != rest
	}
	return shared
}

// docWithRoom is a document in memory of its own, with marked room behind its paragraphs, and behind the spans of each.
func docWithRoom(d impl.Doc) impl.Doc {
	room := slices.Repeat([]impl.Para{para("room", mark, mark, mark, mark)}, len(d.Paras)+4)
	for i, p := range d.Paras {
		p.Spans = append(slices.Clone(p.Spans), slices.Repeat(spans{span(mark, mark, mark, mark)}, 9)...)[:len(p.Spans)]
		room[i] = p
	}
	return impl.Doc{Paras: room[:len(d.Paras)], Gap: d.Gap}
}

// oddDocs is documents that are ok and such as are not.
func oddDocs() []impl.Doc {
	odd, wrong := oddParas(), wrongParas()
	list := []impl.Doc{doc(-1, plain("a")), doc(0, make([]impl.Para, impl.DocMax+1)...)}
	for i := 0; i < len(wrong); i += 7 {
		list = append(list, doc(30, plain("a"), wrong[i].p))
	}
	looks := para("ab \u05d0\u05d1 c\u0301d", 2, 300, 0, 3, span(0, 2, 10, 0), span(3, 5, 20, 1), span(5, 6, 20, 1))
	list = append(list, impl.Doc{}, doc(30), doc(30, looks), doc(30, looks, looks, looks), doc(0, plain(""), looks, plain(""), looks), doc(impl.GapMax, slices.Repeat([]impl.Para{looks}, impl.DocMax)...))
	for i := 0; i+2 < 12; i++ {
		list = append(list, doc(30*i, odd[i:i+3]...))
	}
	return list
}

func TestMemoryOfDocuments(t *testing.T) {
	odd := []int{least, -1, 0, 1, 2, 300, most}
	for _, d := range oddDocs() {
		d = docWithRoom(d)
		before := toldOfDoc(d)
		for i, do := range docCalls() {
			for _, n := range odd {
				for _, m := range odd {
					answer := do(d, n, m)
					told := fmt.Sprintf("%+v", answer)
					if answer.markAll() {
						t.Fatalf("call %d of %+v: two lists of one answer share memory", i, d)
					}
					if toldOfDoc(d) != before {
						t.Fatalf("call %d of %+v: the document is not as it was", i, d)
					}
					same(t, "again", fmt.Sprintf("%+v", do(d, n, m)), told)
				}
			}
		}
	}
}

func TestMemoryOfSessions(t *testing.T) {
	lines := append(exampleLinesAsked(), slices.Repeat([]string{"what"}, 60)...)
	before := slices.Clone(lines)
	for count := range lines {
		impl.Session(lines[:count])
		if !slices.Equal(lines, before) {
			t.Fatalf("%d lines: they are not as they were", count)
		}
	}
	for _, line := range []string{"\x00", "\xff", strings.Repeat(" ", 5000), "text " + strings.Repeat("\xff", 5000), "put " + strings.Repeat("9", 5000) + " x", "wide " + strings.Repeat("0", 5000), "style 0 1 99999 99999", "style 99999 99999 1 1", "cut 99999 99999", "mark 99999 0"} {
		told := impl.Session([]string{"text ab", line, "show", line})
		same(t, "again", impl.Session([]string{"text ab", line, "show", line}), told)
	}
}
