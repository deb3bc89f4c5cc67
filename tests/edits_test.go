package tests

import (
	"fmt"
	"slices"
	"strings"
	"testing"

	"loop.example/colophon/impl"
)

func checkNoPara(t *testing.T, what string, p impl.Para, ok bool) {
	t.Helper()
	same(t, what, fmt.Sprintf("%+v %v", p, ok), fmt.Sprintf("%+v false", impl.Para{}))
}

func checkPara(t *testing.T, what string, p impl.Para, ok bool, want impl.Para) {
	t.Helper()
	same(t, what, fmt.Sprintf("%+q %+v %v", p.Text, p, ok), fmt.Sprintf("%+q %+v true", want.Text, want))
}

// P50: What is put into a paragraph and taken out again leaves it as it was.
func TestTextsArePutIn(t *testing.T) {
	look := span(1, 3, 20, 4)
	p := para("abcd", 1, 500, 1, 2, look)
	for i, c := range []struct {
		at   int
		text string
		want impl.Para
	}{
		{0, "xy", para("xyabcd", 1, 500, 1, 2, span(3, 5, 20, 4))}, {1, "x", para("axbcd", 1, 500, 1, 2, span(2, 4, 20, 4))}, {2, "xy", para("abxycd", 1, 500, 1, 2, span(1, 5, 20, 4))}, {3, "x", para("abcxd", 1, 500, 1, 2, span(1, 4, 20, 4))}, {4, "\u05d0\n", para("abcd\u05d0\n", 1, 500, 1, 2, look)},
		{0, "", p}, {2, "", p}, {4, "", p}, {2, "\u0301", para("ab\u0301cd", 1, 500, 1, 2, span(1, 4, 20, 4))}, {1, "\x00\U0010ffff", para("a\x00\U0010ffffbcd", 1, 500, 1, 2, span(3, 5, 20, 4))},
	} {
		got, ok := impl.ParaPut(p, c.at, c.text)
		checkPara(t, fmt.Sprint("case ", i), got, ok, c.want)
	}
	for i, c := range []struct {
		at   int
		text string
	}{{-1, "x"}, {5, "x"}, {5, ""}, {-1, ""}, {least, "x"}, {most, "x"}, {2, "\x80"}, {2, "a\xff"}, {0, "\xd7"}, {2, strings.Repeat("a", impl.TextMax-3)}, {2, strings.Repeat("a", impl.TextMax+1)}, {2, strings.Repeat("a", 5000)}, {4, "\xed\xa0\x80"}} {
		got, ok := impl.ParaPut(p, c.at, c.text)
		checkNoPara(t, fmt.Sprint("wrong ", i), got, ok)
	}
	got, ok := impl.ParaPut(p, 3, strings.Repeat("\u05d0", impl.TextMax-4))
	checkPara(t, "just so many", got, ok, para("abc"+strings.Repeat("\u05d0", impl.TextMax-4)+"d", 1, 500, 1, 2, span(1, impl.TextMax-1, 20, 4)))
	full := para(strings.Repeat("a", impl.TextMax), 0, 100, 0, 0)
	got, ok = impl.ParaPut(full, 7, "")
	checkPara(t, "full", got, ok, full)
	got, ok = impl.ParaPut(full, 7, "x")
	checkNoPara(t, "too full", got, ok)
	got, ok = impl.ParaPut(impl.Para{}, 0, "ab")
	checkPara(t, "without letters", got, ok, impl.Para{Text: "ab"})
	// Half a letter is none, even where the other half would come next to it.
	got, ok = impl.ParaPut(para("a", 0, 100, 0, 0), 1, "\xcc")
	checkNoPara(t, "half a letter", got, ok)
	got, ok = impl.ParaPut(para("ab", 0, 100, 0, 0, span(0, 1, 10, 0), span(1, 2, 10, 0)), 1, "")
	checkPara(t, "plain", got, ok, para("ab", 0, 100, 0, 0))
	got, ok = impl.ParaPut(para("ab", 0, 100, 0, 0, span(0, 1, 5, 1), span(1, 2, 5, 1)), 2, "c")
	checkPara(t, "plain", got, ok, para("abc", 0, 100, 0, 0, span(0, 3, 5, 1)))
}

func TestPutInAndTakenOut(t *testing.T) {
	someParas(1000, func(p impl.Para, f filled, d *dice) {
		count := len(f.runes)
		come := sampleLetters()[d.below(20):][:d.below(30)]
		at := d.below(count + 1)
		put, ok := impl.ParaPut(p, at, textOf(come))
		if count+len(come) > impl.TextMax {
			checkNoPara(t, "too many", put, ok)
			return
		}
		want := p
		want.Text = textOf(slices.Insert(slices.Clone(f.runes), at, come...))
		all, ahead := lookingOf(f.list, count), plainLooking()
		if at > 0 {
			ahead = all[at-1]
		}
		want.Spans = plainOf(slices.Insert(all, at, slices.Repeat([]looking{ahead}, len(come))...))
		checkPara(t, "put", put, ok, want)
		was := p
		was.Spans = plainOf(lookingOf(f.list, count))
		back, ok := impl.ParaCut(put, at, at+len(come))
		checkPara(t, "taken out", back, ok, was)
	})
}

// P51: What is cut out is gone, and all else stays.
func TestLettersAreCutOut(t *testing.T) {
	p := para("ab\u05d0d", 2, 500, 0, 3, span(0, 1, 5, 0), span(1, 3, 20, 4))
	for i, c := range []struct {
		from, to int
		want     impl.Para
	}{
		{0, 1, para("b\u05d0d", 2, 500, 0, 3, span(0, 2, 20, 4))}, {1, 2, para("a\u05d0d", 2, 500, 0, 3, span(0, 1, 5, 0), span(1, 2, 20, 4))}, {1, 3, para("ad", 2, 500, 0, 3, span(0, 1, 5, 0))}, {3, 4, para("ab\u05d0", 2, 500, 0, 3, span(0, 1, 5, 0), span(1, 3, 20, 4))}, {0, 3, para("d", 2, 500, 0, 3)}, {2, 4, para("ab", 2, 500, 0, 3, span(0, 1, 5, 0), span(1, 2, 20, 4))},
		// All of it, and nothing.
		{0, 4, para("", 2, 500, 0, 3)}, {0, 0, p}, {2, 2, p}, {4, 4, p},
	} {
		got, ok := impl.ParaCut(p, c.from, c.to)
		checkPara(t, fmt.Sprint("case ", i), got, ok, c.want)
	}
	for _, c := range [][2]int{{1, 0}, {4, 0}, {3, 2}, {-1, 2}, {-1, -1}, {0, 5}, {4, 5}, {5, 5}, {5, 4}, {least, most}, {most, least}, {least, least}, {most, most}, {0, most}, {least, 4}, {2, least}} {
		got, ok := impl.ParaCut(p, c[0], c[1])
		checkNoPara(t, fmt.Sprint("cut ", c), got, ok)
	}
	got, ok := impl.ParaCut(impl.Para{}, 0, 0)
	checkPara(t, "without letters", got, ok, impl.Para{})
	got, ok = impl.ParaCut(impl.Para{}, 0, 1)
	checkNoPara(t, "without letters", got, ok)
	// Spans are plain then, also if nothing goes; such as come side by side and look alike are one.
	got, ok = impl.ParaCut(para("ab", 0, 100, 0, 0, span(0, 1, 10, 0), span(1, 2, 5, 1)), 1, 1)
	checkPara(t, "plain", got, ok, para("ab", 0, 100, 0, 0, span(1, 2, 5, 1)))
	got, ok = impl.ParaCut(para("abc", 0, 100, 0, 0, span(0, 1, 5, 1), span(2, 3, 5, 1)), 1, 2)
	checkPara(t, "together", got, ok, para("ac", 0, 100, 0, 0, span(0, 2, 5, 1)))
	// Parts of what is taken for one letter can be cut out alone.
	got, ok = impl.ParaCut(para("a\u0301b", 0, 100, 0, 0), 1, 2)
	checkPara(t, "within a cluster", got, ok, para("ab", 0, 100, 0, 0))
}

func TestBothHalvesAreCutOut(t *testing.T) {
	someParas(1000, func(p impl.Para, f filled, d *dice) {
		count := len(f.runes)
		from := d.below(count + 1)
		to := from + d.below(count-from+1)
		middle := from + d.below(to-from+1)
		want := p
		want.Text = textOf(slices.Delete(slices.Clone(f.runes), from, to))
		want.Spans = plainOf(slices.Delete(lookingOf(f.list, count), from, to))
		all, ok := impl.ParaCut(p, from, to)
		checkPara(t, "all", all, ok, want)
		half, ok := impl.ParaCut(p, middle, to)
		same(t, "latter half", ok, true)
		both, ok := impl.ParaCut(half, from, middle)
		checkPara(t, "both", both, ok, want)
	})
}

// P52: A size alone changes how wide letters are, not what they are.
func TestLettersGetAStyle(t *testing.T) {
	p := para("a\u05d0cd", 1, 500, 1, 3, span(1, 3, 20, 4))
	for i, c := range []struct {
		s    impl.Span
		want []impl.Span
	}{
		{span(0, 4, 5, 9), spans{span(0, 4, 5, 9)}}, {span(0, 1, 20, 4), spans{span(0, 3, 20, 4)}}, {span(2, 4, 30, 0), spans{span(1, 2, 20, 4), span(2, 4, 30, 0)}}, {span(1, 3, 10, 0), nil}, {span(2, 3, 20, 4), spans{span(1, 3, 20, 4)}}, {span(3, 4, impl.SizeMax, 0), spans{span(1, 3, 20, 4), span(3, 4, impl.SizeMax, 0)}},
	} {
		want := p
		want.Spans = c.want
		got, ok := impl.ParaStyle(p, c.s)
		checkPara(t, fmt.Sprint("case ", i), got, ok, want)
	}
	for i, s := range []impl.Span{span(0, 5, 5, 1), span(4, 5, 5, 1), span(-1, 2, 5, 1), span(2, 2, 5, 1), span(3, 2, 5, 1), span(0, 1, 0, 1), span(0, 1, impl.SizeMax+1, 1), span(0, 1, 5, -1), span(0, 1, 5, 10), span(least, most, least, most), {}} {
		got, ok := impl.ParaStyle(p, s)
		checkNoPara(t, fmt.Sprint("wrong ", i), got, ok)
	}
	got, ok := impl.ParaStyle(impl.Para{}, span(0, 1, 5, 1))
	checkNoPara(t, "without letters", got, ok)
}

func TestStylesUpToTheMostSpans(t *testing.T) {
	text := strings.Repeat("a", 30)
	full := para(text, 0, 500, 0, 0, manySpans(impl.SpanMax)...)
	got, ok := impl.ParaStyle(full, span(20, 21, 5, 1))
	checkNoPara(t, "one too many", got, ok)
	got, ok = impl.ParaStyle(full, span(12, 21, 5, 1))
	checkNoPara(t, "one too many beside", got, ok)
	got, ok = impl.ParaStyle(full, span(11, 21, 5, 1))
	checkPara(t, "just so many", got, ok, para(text, 0, 500, 0, 0, append(manySpans(11), span(11, 21, 5, 1))...))
	got, ok = impl.ParaStyle(full, span(0, 30, 5, 1))
	checkPara(t, "over all", got, ok, para(text, 0, 500, 0, 0, span(0, 30, 5, 1)))
	got, ok = impl.ParaStyle(para(text, 0, 500, 0, 0, manySpans(11)...), span(20, 21, 5, 1))
	checkPara(t, "one more", got, ok, para(text, 0, 500, 0, 0, append(manySpans(11), span(20, 21, 5, 1))...))
}

func TestStylesByLetters(t *testing.T) {
	someParas(1000, func(p impl.Para, f filled, d *dice) {
		count := len(f.runes)
		if count == 0 {
			return
		}
		from := d.below(count)
		s := span(from, from+1+d.below(count-from), 1+d.below(impl.SizeMax), d.below(10))
		all := lookingOf(f.list, count)
		for at := s.From; at < s.To; at++ {
			all[at] = looking{s.Size, s.Mark}
		}
		got, ok := impl.ParaStyle(p, s)
		want := p
		want.Spans = plainOf(all)
		if len(want.Spans) > impl.SpanMax {
			checkNoPara(t, "too many", got, ok)
			return
		}
		checkPara(t, "styled", got, ok, want)
		same(t, "looks", toldOf(got.Spans, count), all)
		again, ok := impl.ParaStyle(got, s)
		checkPara(t, "again", again, ok, want)
	})
}
