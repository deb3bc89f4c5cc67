package tests

import (
	"fmt"
	"slices"
	"strings"
	"testing"

	"loop.example/colophon/impl"
)

// dots is three dots in one letter.
const dots = 8230

// partOf is a paragraph with some of its letters alone, looking as they did.
func partOf(p impl.Para, from int, to int) impl.Para {
	runes := runesOf(p.Text)
	part := p
	part.Text = textOf(runes[from:to])
	part.Spans = plainOf(lookingOf(p.Spans, len(runes))[from:to])
	return part
}

// bothOf is a paragraph with the letters of another one behind, looking as they did.
func bothOf(p impl.Para, next impl.Para) impl.Para {
	both := p
	both.Text = p.Text + next.Text
	both.Spans = plainOf(append(lookingOf(p.Spans, len(runesOf(p.Text))), lookingOf(next.Spans, len(runesOf(next.Text)))...))
	return both
}

func TestDocumentsAreSplit(t *testing.T) {
	a, z := plain("a"), para("z", 1, 500, 1, 3, span(0, 1, 10, 0))
	p := para("ab\u05d0\u0301c", 1, 200, 1, 3, span(0, 1, 20, 0), span(1, 3, 5, 1), span(3, 5, 5, 1))
	other := func(text string, list ...impl.Span) impl.Para { return para(text, 1, 200, 1, 3, list...) }
	for i, c := range []struct {
		d        impl.Doc
		para, at int
		want     impl.Doc
	}{
		{doc(30, p), 0, 2, doc(30, other("ab", span(0, 1, 20, 0), span(1, 2, 5, 1)), other("\u05d0\u0301c", span(0, 3, 5, 1)))}, {doc(0, p), 0, 1, doc(0, other("a", span(0, 1, 20, 0)), other("b\u05d0\u0301c", span(0, 4, 5, 1)))},
		// At the beginning and at the end one of both has no letters; within a cluster there is a place, too.
		{doc(30, p), 0, 0, doc(30, other(""), other("ab\u05d0\u0301c", span(0, 1, 20, 0), span(1, 5, 5, 1)))}, {doc(30, p), 0, 5, doc(30, other("ab\u05d0\u0301c", span(0, 1, 20, 0), span(1, 5, 5, 1)), other(""))}, {doc(30, p), 0, 3, doc(30, other("ab\u05d0", span(0, 1, 20, 0), span(1, 3, 5, 1)), other("\u0301c", span(0, 2, 5, 1)))}, {doc(30, plain("")), 0, 0, doc(30, plain(""), plain(""))},
		// All other paragraphs stay as they were.
		{doc(1, z, p, a), 1, 4, doc(1, z, other("ab\u05d0\u0301", span(0, 1, 20, 0), span(1, 4, 5, 1)), other("c", span(0, 1, 5, 1)), a)}, {doc(1, a, z), 0, 1, doc(1, a, plain(""), z)}, {doc(1, z, a), 1, 0, doc(1, z, plain(""), a)}, {doc(impl.GapMax, a, a, a, a, z), 3, 1, doc(impl.GapMax, a, a, a, a, plain(""), z)},
	} {
		got, ok := impl.DocSplit(c.d, c.para, c.at)
		checkDoc(t, fmt.Sprint("case ", i), got, ok, c.want)
	}
	full := slices.Repeat([]impl.Para{a}, impl.DocMax)
	for i, c := range []struct {
		d        impl.Doc
		para, at int
	}{
		{doc(30, p, a), 0, -1}, {doc(30, p, a), 0, 6}, {doc(30, p, a), 1, 2}, {doc(30, p, a), 0, least}, {doc(30, p, a), 0, most}, {doc(30, p, a), -1, 0}, {doc(30, p, a), 2, 0}, {doc(30, p, a), least, 0}, {doc(30, p, a), most, 0}, {impl.Doc{}, 0, 0}, {doc(30, plain("")), 0, 1},
		{doc(30, full...), 0, 0}, {doc(30, full...), 0, 1}, {doc(30, full...), 5, 1}, {doc(30, full...), 5, 2}, {doc(30, full...), 6, 0}, {doc(30, make([]impl.Para, impl.DocMax)...), 0, 0},
	} {
		got, ok := impl.DocSplit(c.d, c.para, c.at)
		checkNoDoc(t, fmt.Sprint("wrong ", i), got, ok)
	}
}

// P70: What is joined has all letters of both, looking as they did.
func TestDocumentsAreJoined(t *testing.T) {
	a, z := plain("a"), para("z", 1, 500, 1, 3, span(0, 1, 10, 0))
	first := func(text string, list ...impl.Span) impl.Para { return para(text, 1, 200, 1, 3, list...) }
	second := func(text string, list ...impl.Span) impl.Para { return para(text, 0, 700, 0, 2, list...) }
	for i, c := range []struct {
		d    impl.Doc
		para int
		want impl.Doc
	}{
		{doc(30, first("ab"), second("cd")), 0, doc(30, first("abcd"))}, {doc(30, first(""), second("cd")), 0, doc(30, first("cd"))}, {doc(30, first("ab"), second("")), 0, doc(30, first("ab"))}, {doc(0, first(""), second("")), 0, doc(0, first(""))}, {doc(30, second("\u05d0"), first("a")), 0, doc(30, second("\u05d0a"))},
		// Looks come with their letters; such as are alike where both meet are one, and none says nothing.
		{doc(30, first("ab", span(0, 1, 5, 1)), second("cd", span(1, 2, 5, 1))), 0, doc(30, first("abcd", span(0, 1, 5, 1), span(3, 4, 5, 1)))}, {doc(30, first("ab", span(1, 2, 5, 1)), second("cd", span(0, 1, 5, 1))), 0, doc(30, first("abcd", span(1, 3, 5, 1)))}, {doc(30, first("ab", span(1, 2, 5, 1)), second("cd", span(0, 1, 5, 2))), 0, doc(30, first("abcd", span(1, 2, 5, 1), span(2, 3, 5, 2)))}, {doc(30, first("ab", span(0, 1, 5, 1), span(1, 2, 5, 1)), second("cd", span(0, 2, 10, 0))), 0, doc(30, first("abcd", span(0, 2, 5, 1)))},
		// Letters of both may come to stand in one cluster.
		{doc(30, first("a"), second("\u0301b", span(0, 1, 5, 1))), 0, doc(30, first("a\u0301b", span(1, 2, 5, 1)))},
		// All others stay as they were.
		{doc(1, z, first("b"), second("c"), a), 1, doc(1, z, first("bc"), a)}, {doc(1, first("b"), second("c"), z), 0, doc(1, first("bc"), z)}, {doc(1, z, first("b"), second("c")), 1, doc(1, z, first("bc"))}, {doc(impl.GapMax, a, a, a, a, z, first("b")), 3, doc(impl.GapMax, a, a, a, para("az", impl.BaseAuto, 300, 0, 0), first("b"))},
	} {
		got, ok := impl.DocJoin(c.d, c.para)
		checkDoc(t, fmt.Sprint("case ", i), got, ok, c.want)
	}
	for i, c := range []struct {
		d    impl.Doc
		para int
	}{{impl.Doc{}, 0}, {doc(0, a), 0}, {doc(0, a, a), 1}, {doc(0, a, a), 2}, {doc(0, a, a), -1}, {doc(0, a, a), least}, {doc(0, a, a), most}, {doc(0, a, a, a, a, a, a), 5}, {doc(0), -1}} {
		got, ok := impl.DocJoin(c.d, c.para)
		checkNoDoc(t, fmt.Sprint("wrong ", i), got, ok)
	}
}

func TestJoinsUpToTheMost(t *testing.T) {
	letters := func(count int, list ...impl.Span) impl.Para {
		return para(strings.Repeat("\u05d0", count), 1, 200, 1, 3, list...)
	}
	got, ok := impl.DocJoin(doc(0, letters(40), letters(40)), 0)
	checkDoc(t, "just so many letters", got, ok, doc(0, letters(80)))
	got, ok = impl.DocJoin(doc(0, letters(80), letters(0)), 0)
	checkDoc(t, "just so many letters", got, ok, doc(0, letters(80)))
	for _, count := range []int{1, 40, 79, 80} {
		got, ok = impl.DocJoin(doc(0, letters(count), letters(81-count)), 0)
		checkNoDoc(t, "too many letters", got, ok)
	}
	// manySpans(n) are n letters side by side, no two neighbours alike.
	many, six := manySpans(impl.SpanMax), manySpans(6)
	got, ok = impl.DocJoin(doc(0, letters(20, many...), letters(20)), 0)
	checkDoc(t, "just so many spans", got, ok, doc(0, letters(40, many...)))
	got, ok = impl.DocJoin(doc(0, letters(20, many...), letters(20, span(1, 2, 5, 1))), 0)
	checkNoDoc(t, "too many spans", got, ok)
	got, ok = impl.DocJoin(doc(0, letters(20, six...), letters(20, manySpans(7)...)), 0)
	checkNoDoc(t, "too many spans of both", got, ok)
	moved := slices.Clone(six)
	for i := range moved {
		moved[i].From, moved[i].To = moved[i].From+20, moved[i].To+20
	}
	got, ok = impl.DocJoin(doc(0, letters(20, six...), letters(20, six...)), 0)
	checkDoc(t, "just so many spans of both", got, ok, doc(0, letters(40, append(slices.Clone(six), moved...)...)))
	// Plain they are not too many: what looks alike where both meet, and what says nothing, does not count.
	last := many[impl.SpanMax-1]
	alike := span(0, 3, last.Size, last.Mark)
	together := slices.Clone(many)
	together[impl.SpanMax-1].To += 3
	got, ok = impl.DocJoin(doc(0, letters(impl.SpanMax, many...), letters(9, alike)), 0)
	checkDoc(t, "alike where both meet", got, ok, doc(0, letters(impl.SpanMax+9, together...)))
	got, ok = impl.DocJoin(doc(0, letters(20, many...), letters(9, span(0, 3, 10, 0), span(3, 5, 10, 0))), 0)
	checkDoc(t, "saying nothing", got, ok, doc(0, letters(29, many...)))
}

// P69: What was cut in two can be put together.
func TestSplitAndJoined(t *testing.T) {
	someDocs(400, func(d impl.Doc, known []filled, dice *dice) {
		for para := range d.Paras {
			count := len(known[para].runes)
			at := dice.below(count + 1)
			split, ok := impl.DocSplit(d, para, at)
			if len(d.Paras) == impl.DocMax {
				checkNoDoc(t, "too many", split, ok)
				continue
			}
			p := d.Paras[para]
			want := doc(d.Gap, slices.Concat(d.Paras[:para], []impl.Para{partOf(p, 0, at), partOf(p, at, count)}, d.Paras[para+1:])...)
			checkDoc(t, "split", split, ok, want)
			was := doc(d.Gap, slices.Clone(d.Paras)...)
			was.Paras[para] = partOf(p, 0, count)
			back, ok := impl.DocJoin(split, para)
			checkDoc(t, "back", back, ok, was)
		}
	})
}

func TestSomeAreJoined(t *testing.T) {
	joined := 0
	someDocs(400, func(d impl.Doc, known []filled, dice *dice) {
		for para := range max(len(d.Paras)-1, 0) {
			got, ok := impl.DocJoin(d, para)
			both := bothOf(d.Paras[para], d.Paras[para+1])
			if len(runesOf(both.Text)) > impl.TextMax || len(both.Spans) > impl.SpanMax {
				checkNoDoc(t, "too many", got, ok)
				continue
			}
			joined++
			checkDoc(t, "joined", got, ok, doc(d.Gap, slices.Concat(d.Paras[:para], []impl.Para{both}, d.Paras[para+2:])...))
		}
	})
	if joined < 100 {
		t.Errorf("%d are too few to tell", joined)
	}
}

// P72: A paragraph that is cut has no more lines than it may, and as many letters as have room.
func TestParagraphsAreTrimmed(t *testing.T) {
	p := para("one two \u05d0\u05d1\u05d2 three", 2, 700, 0, 1, span(4, 6, 10, 0), span(6, 7, 10, 3))
	marked := span(6, 7, 10, 3)
	tall := para(strings.Repeat("a", impl.TextMax), 0, 0, 0, 0)
	for i, c := range []struct {
		p     impl.Para
		lines int
		want  impl.Para
	}{
		{p, 1, para("one tw\u2026", 2, 700, 0, 1)}, {p, 2, para("one two \u05d0\u05d1\u05d2 th\u2026", 2, 700, 0, 1, marked)}, {p, 3, p}, {p, 4, p}, {p, most, p}, {impl.Para{}, 1, impl.Para{}}, {plain(""), most, plain("")}, {plain("abc"), 1, plain("abc")},
		// The dots look as the letter ahead of them, as all do if there is none.
		{para("abcd", 0, 300, 0, 0, span(1, 2, 10, 4)), 1, para("ab\u2026", 0, 300, 0, 0, span(1, 3, 10, 4))}, {para("abcd", 0, 300, 0, 0, span(1, 2, 20, 0)), 1, para("a\u2026", 0, 300, 0, 0)}, {para("abcd", 0, 300, 0, 0, span(0, 2, 20, 4)), 1, para("\u2026", 0, 300, 0, 0)}, {para("abcd", 0, 400, 0, 0, span(0, 2, 20, 4)), 1, para("a\u2026", 0, 400, 0, 0, span(0, 2, 20, 4))},
		// No part of a cluster is left alone.
		{plain("aab\u0301c"), 1, plain("aa\u2026")}, {plain("aa\u0301bc"), 1, plain("aa\u0301\u2026")}, {plain("a\u0301\u0301\u0301bcd"), 1, plain("a\u0301\u0301\u0301b\u2026")}, {plain("a\r\nb"), 1, plain("a\u2026")}, {plain("\U0001f1e6\U0001f1e7\U0001f1e6\U0001f1e7\U0001f1e6\U0001f1e7ab"), 1, plain("\U0001f1e6\U0001f1e7\U0001f1e6\U0001f1e7\u2026")},
		// Lines end where they must, and behind that the dots are on the next one.
		{plain("a\nb\nc"), 1, plain("a\u2026")}, {plain("a\nb\nc"), 2, plain("a\nb\u2026")}, {plain("\n\n"), 1, plain("\u2026")}, {plain("a\n\nb"), 2, plain("a\n\u2026")},
		// Where not even the dots alone have room they have a line all the same.
		{para("ab", 0, 0, 0, 0), 1, para("\u2026", 0, 0, 0, 0)}, {para("ab", 0, 99, 1, 3), 1, para("\u2026", 0, 99, 1, 3)}, {para("abc", 0, 0, 0, 0), 2, para("a\u2026", 0, 0, 0, 0)}, {tall, 1, para("\u2026", 0, 0, 0, 0)}, {tall, 2, para("a\u2026", 0, 0, 0, 0)}, {tall, 79, para(strings.Repeat("a", 78)+"\u2026", 0, 0, 0, 0)}, {tall, 80, tall}, {tall, 81, tall},
		// As many letters as there may be: the dots come instead of the last one.
		{para(strings.Repeat("a", 80), 0, 7999, 0, 0), 1, para(strings.Repeat("a", 78)+"\u2026", 0, 7999, 0, 0)}, {para(strings.Repeat("a", 79)+"m", 0, 8000, 0, 0), 1, para(strings.Repeat("a", 79)+"\u2026", 0, 8000, 0, 0)},
		// A blank stays ahead of the dots, if both have room.
		{plain("ab cd"), 1, plain("ab\u2026")}, {plain("a cd"), 1, plain("a \u2026")},
		// One cluster fewer may need more lines: the most that have room are asked for.
		{para("\u200ba bbb", 0, 160, 1, 0), 2, para("\u200ba \u2026", 0, 160, 1, 0)}, {para(" \u00a0 bbb", 0, 180, 0, 0), 2, para(" \u00a0 \u2026", 0, 180, 0, 0)},
		// The side is that of what is left.
		{para("1 \u05d0\u05d1\u05d2", 2, 280, 0, 0), 1, para("1 \u2026", 2, 280, 0, 0)},
	} {
		got, ok := impl.ParaTrim(c.p, c.lines)
		checkPara(t, fmt.Sprint("case ", i), got, ok, c.want)
	}
	for _, lines := range []int{0, -1, least} {
		for _, p := range []impl.Para{p, {}, plain("a"), tall} {
			got, ok := impl.ParaTrim(p, lines)
			checkNoPara(t, fmt.Sprint(lines, " lines"), got, ok)
		}
	}
	for i, c := range wrongParas() {
		for _, lines := range []int{least, 0, 1, 2, most} {
			got, ok := impl.ParaTrim(c.p, lines)
			checkNoPara(t, fmt.Sprint("wrong ", i), got, ok)
		}
	}
}

// linesIn is how many lines a paragraph has, told without the program's.
func linesIn(p impl.Para, f filled) int {
	if p.Mode == impl.FillBest {
		return len(f.best())
	}
	return len(f.greedy())
}

// trimmed is a paragraph with dots behind its first letters.
func trimmed(p impl.Para, at int) (impl.Para, filled) {
	some, look := partOf(p, 0, at), plainLooking()
	if at > 0 {
		look = lookingOf(p.Spans, at)[at-1]
	}
	some.Text += string(rune(dots))
	some.Spans = plainOf(append(lookingOf(some.Spans, at), look))
	return some, filledOf(runesOf(some.Text), some.Spans, some.Wide)
}

func TestSomeParagraphsAreTrimmed(t *testing.T) {
	someParas(40, func(p impl.Para, f filled, d *dice) {
		count := linesIn(p, f)
		lines := 1 + d.below(count+1)
		got, ok := impl.ParaTrim(p, lines)
		if count <= lines {
			checkPara(t, "as it is", got, ok, p)
			return
		}
		best, none := impl.Para{}, true
		for at := range f.runes {
			if !f.clusterEnds(at) && at > 0 {
				continue
			}
			if some, filled := trimmed(p, at); linesIn(some, filled) <= lines {
				best, none = some, false
			}
		}
		if none {
			t.Fatalf("%+v has no room for a letter", p)
		}
		checkPara(t, "trimmed", got, ok, best)
	})
}
