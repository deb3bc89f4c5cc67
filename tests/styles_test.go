package tests

import (
	"fmt"
	"slices"
	"testing"

	"loop.example/colophon/impl"
)

func span(from int, to int, size int, mark int) impl.Span {
	return impl.Span{From: from, To: to, Size: size, Mark: mark}
}

type spans = []impl.Span

// looking is size and mark of a letter.
type looking [2]int

func plainLooking() looking {
	return looking{impl.SizeBase, 0}
}

// lookingOf is how so many letters look, letter by letter; the spans are ok.
func lookingOf(list spans, count int) []looking {
	all := make([]looking, count)
	for at := range all {
		all[at] = plainLooking()
		for _, s := range list {
			if at >= s.From && at < s.To {
				all[at] = looking{s.Size, s.Mark}
			}
		}
	}
	return all
}

// plainOf is the one way to say how letters look.
func plainOf(all []looking) spans {
	var list spans
	for at, as := range all {
		switch last := len(list) - 1; {
		case as == plainLooking():
		case last >= 0 && list[last].To == at && as == looking{list[last].Size, list[last].Mark}:
			list[last].To++
		default:
			list = append(list, span(at, at+1, as[0], as[1]))
		}
	}
	return list
}

func toldOf(list spans, count int) []looking {
	all := make([]looking, count)
	for at := range all {
		all[at][0], all[at][1] = impl.SpanAt(list, at)
	}
	return all
}

// someSpans hands on spans that are ok for so many letters, many side by side, many that look alike.
func someSpans(times int, each func(list spans, count int, d *dice)) {
	d := dice(4)
	for range times {
		count := d.below(impl.TextMax + 1)
		if d.below(2) > 0 {
			count = d.below(16)
		}
		list := make(spans, 0, impl.SpanMax)
		seldom, kinds := 2+d.below(90), 2+d.below(8)
		for at := 0; at < count && len(list) < impl.SpanMax && d.below(seldom) > 0; {
			from := at + d.below(2)*d.below(min(count-at, 1+d.below(10)))
			to := from + 1 + d.below(min(count-from, 1+d.below(6)))
			list = append(list, span(from, to, impl.SizeBase+d.below(kinds)-1, d.below(2)))
			at = to
		}
		each(list, count, &d)
	}
}

// manySpans is so many spans of one letter each, side by side, no two neighbours alike.
func manySpans(count int) spans {
	var list spans
	for at := range count {
		list = append(list, span(at, at+1, 1+at%2, 0))
	}
	return list
}

// wrongSpans is spans that are ok for no 9 letters.
func wrongSpans() []spans {
	const least, most = -1 << 63, 1<<63 - 1
	return []spans{
		{span(-1, 2, 5, 1)}, {span(9, 10, 5, 1)}, {span(8, 10, 5, 1)}, {span(3, 3, 5, 1)}, {span(4, 3, 5, 1)}, {span(9, 9, 5, 1)}, {span(0, 0, 5, 1)},
		{span(1, 2, 0, 1)}, {span(1, 2, -1, 1)}, {span(1, 2, impl.SizeMax+1, 1)}, {span(1, 2, 5, -1)}, {span(1, 2, 5, 10)}, {span(0, 0, 0, 0)},
		{span(1, 4, 5, 1), span(3, 6, 5, 1)}, {span(4, 5, 5, 1), span(1, 2, 5, 1)}, {span(1, 3, 5, 1), span(1, 3, 5, 1)}, {span(1, 2, 5, 1), span(3, 6, 6, 1), span(5, 7, 5, 1)}, {span(0, 9, 5, 1), span(3, 4, 6, 1)},
		{span(least, most, 5, 1)}, {span(1, most, 5, 1)}, {span(least, 2, 5, 1)}, {span(most, least, 5, 1)}, {span(1, 2, most, 1)}, {span(1, 2, 5, least)}, {span(1, 2, least, most)},
		{span(1, 2, 5, 1), span(3, 4, 0, 1)}, {span(1, 2, 5, 1), span(3, 4, 5, 10)}, {span(1, 2, 41, 1), span(3, 4, 5, 9)},
	}
}

func TestSpansThatAreOk(t *testing.T) {
	for i, c := range []struct {
		list  spans
		count int
	}{
		{nil, 0}, {nil, impl.TextMax}, {spans{}, 5}, {spans{span(0, 9, 5, 1)}, 9}, {spans{span(0, 1, 1, 0)}, 1}, {spans{span(8, 9, impl.SizeMax, 9)}, 9},
		{spans{span(0, 4, 5, 1), span(4, 9, 5, 1)}, 9}, {spans{span(1, 2, 10, 0), span(2, 3, 10, 0), span(5, 6, 10, 0)}, 9}, {spans{span(0, impl.TextMax, 5, 1)}, impl.TextMax},
		{manySpans(impl.SpanMax), impl.SpanMax}, {manySpans(impl.SpanMax), impl.TextMax},
	} {
		if !impl.SpansOk(c.list, c.count) {
			t.Errorf("case %d: %v is not ok for %d", i, c.list, c.count)
		}
	}
	for i, list := range wrongSpans() {
		if impl.SpansOk(list, 9) {
			t.Errorf("case %d: %v is ok", i, list)
		}
	}
	for i, c := range []struct {
		list  spans
		count int
	}{
		{nil, -1}, {nil, impl.TextMax + 1}, {nil, -1 << 63}, {nil, 1<<63 - 1}, {spans{span(0, 1, 5, 1)}, 0}, {spans{span(0, 1, 5, 1)}, -1}, {spans{span(0, 1, 5, 1)}, impl.TextMax + 1},
		{spans{span(0, impl.TextMax+1, 5, 1)}, impl.TextMax}, {spans{span(0, impl.TextMax+1, 5, 1)}, impl.TextMax + 1}, {manySpans(impl.SpanMax + 1), impl.TextMax}, {manySpans(40), 40}, {manySpans(3), 2},
	} {
		if impl.SpansOk(c.list, c.count) {
			t.Errorf("count %d: %v is ok for %d", i, c.list, c.count)
		}
	}
}

// P24: A letter looks as its span says, and else as all do.
func TestLettersLookAsTheirSpan(t *testing.T) {
	list := spans{span(1, 3, 20, 0), span(3, 5, 7, 2), span(6, 7, 10, 0), span(79, 80, 40, 9)}
	for _, c := range [][3]int{{0, 10, 0}, {1, 20, 0}, {2, 20, 0}, {3, 7, 2}, {4, 7, 2}, {5, 10, 0}, {6, 10, 0}, {7, 10, 0}, {78, 10, 0}, {79, 40, 9}, {80, 10, 0}, {-1, 10, 0}, {-1 << 63, 10, 0}, {1<<63 - 1, 10, 0}} {
		size, mark := impl.SpanAt(list, c[0])
		same(t, fmt.Sprint("letter ", c[0]), []int{size, mark}, c[1:])
	}
	size, mark := impl.SpanAt(nil, 0)
	same(t, "no spans", []int{size, mark}, "[10 0]")
	someSpans(500, func(list spans, count int, d *dice) {
		same(t, fmt.Sprint(list), toldOf(list, count), lookingOf(list, count))
	})
}

func TestLettersOfWrongSpans(t *testing.T) {
	wrong := append(wrongSpans(), manySpans(impl.SpanMax+1), spans{span(0, impl.TextMax+1, 5, 1)}, spans{span(impl.TextMax, impl.TextMax+1, 5, 1)})
	for i, list := range wrong {
		if impl.SpansOk(list, impl.TextMax) {
			continue
		}
		for _, at := range []int{-1, 0, 1, 2, 5, 80} {
			if size, mark := impl.SpanAt(list, at); size != 0 || mark != 0 {
				t.Errorf("case %d, letter %d: %d %d", i, at, size, mark)
			}
		}
	}
}

// P25: Spans can be written in one way alone, and all looks as it did.
func TestPlainSpans(t *testing.T) {
	for i, c := range []struct {
		list spans
		want string
	}{
		{nil, "[]"}, {spans{span(1, 3, 20, 0), span(3, 5, 20, 0)}, "[{1 5 20 0}]"}, {spans{span(1, 3, 20, 0), span(4, 5, 20, 0)}, "[{1 3 20 0} {4 5 20 0}]"},
		{spans{span(1, 3, 20, 0), span(3, 5, 20, 1)}, "[{1 3 20 0} {3 5 20 1}]"}, {spans{span(1, 3, 20, 1), span(3, 5, 21, 1)}, "[{1 3 20 1} {3 5 21 1}]"},
		{spans{span(0, 9, 10, 0)}, "[]"}, {spans{span(0, 9, 10, 1)}, "[{0 9 10 1}]"}, {spans{span(0, 9, 11, 0)}, "[{0 9 11 0}]"},
		{spans{span(0, 2, 5, 0), span(2, 4, 10, 0), span(4, 6, 5, 0)}, "[{0 2 5 0} {4 6 5 0}]"}, {spans{span(0, 1, 5, 3), span(1, 2, 5, 3), span(2, 3, 5, 3), span(3, 9, 5, 3)}, "[{0 9 5 3}]"},
		{spans{span(0, 1, 10, 0), span(1, 2, 5, 3), span(2, 3, 10, 0), span(3, 4, 10, 0), span(8, 9, 5, 3)}, "[{1 2 5 3} {8 9 5 3}]"},
	} {
		same(t, fmt.Sprint("case ", i), impl.SpansPlain(c.list, 9), c.want)
	}
	same(t, "most", impl.SpansPlain(manySpans(impl.SpanMax), impl.TextMax), manySpans(impl.SpanMax))
	someSpans(1500, func(list spans, count int, d *dice) {
		plain := impl.SpansPlain(list, count)
		same(t, fmt.Sprint(list), plain, plainOf(lookingOf(list, count)))
		same(t, "looks", toldOf(plain, count), toldOf(list, count))
		if !impl.SpansOk(plain, count) {
			t.Errorf("%v of %v is not ok", plain, list)
		}
		same(t, "again", impl.SpansPlain(plain, count), plain)
	})
}

// wrongCounts is counts for which not even no spans are ok.
func wrongCounts() []int {
	return []int{-1, impl.TextMax + 1, -1 << 63, 1<<63 - 1}
}

func TestNothingOfWrongSpans(t *testing.T) {
	check := func(list spans, count int) {
		t.Helper()
		put, ok := impl.SpansPut(list, count, span(0, 1, 5, 1))
		if len(put) != 0 || ok || len(impl.SpansPlain(list, count)) != 0 || len(impl.SpansMove(list, count, 0, 0)) != 0 || len(impl.SpansMove(list, count, 0, 1)) != 0 {
			t.Errorf("%v of %d: %v %v", list, count, put, ok)
		}
	}
	for _, list := range wrongSpans() {
		check(list, 9)
	}
	check(manySpans(impl.SpanMax+1), impl.TextMax)
	for _, count := range wrongCounts() {
		check(nil, count)
		check(spans{span(1, 2, 5, 1)}, count)
	}
	check(spans{span(0, 1, 5, 1)}, 0)
}

// P26: What is put over others is what is seen, and nothing else changes.
func TestPutOverOthers(t *testing.T) {
	list := spans{span(1, 3, 20, 0), span(3, 6, 7, 2)}
	for i, c := range []struct {
		s    impl.Span
		want string
	}{
		{span(0, 9, 5, 1), "[{0 9 5 1}]"}, {span(0, 9, 10, 0), "[]"}, {span(4, 5, 5, 1), "[{1 3 20 0} {3 4 7 2} {4 5 5 1} {5 6 7 2}]"}, {span(4, 5, 10, 0), "[{1 3 20 0} {3 4 7 2} {5 6 7 2}]"},
		{span(4, 5, 7, 2), "[{1 3 20 0} {3 6 7 2}]"}, {span(2, 4, 5, 1), "[{1 2 20 0} {2 4 5 1} {4 6 7 2}]"}, {span(3, 6, 20, 0), "[{1 6 20 0}]"}, {span(3, 5, 20, 0), "[{1 5 20 0} {5 6 7 2}]"},
		{span(1, 3, 7, 2), "[{1 6 7 2}]"}, {span(6, 9, 7, 2), "[{1 3 20 0} {3 9 7 2}]"}, {span(0, 1, 20, 0), "[{0 3 20 0} {3 6 7 2}]"}, {span(7, 8, 10, 0), "[{1 3 20 0} {3 6 7 2}]"},
		{span(8, 9, impl.SizeMax, 9), "[{1 3 20 0} {3 6 7 2} {8 9 40 9}]"}, {span(0, 1, 1, 0), "[{0 1 1 0} {1 3 20 0} {3 6 7 2}]"}, {span(1, 6, 10, 1), "[{1 6 10 1}]"},
	} {
		got, ok := impl.SpansPut(list, 9, c.s)
		same(t, fmt.Sprint("case ", i), fmt.Sprint(got, ok), c.want+" true")
	}
	for _, wrong := range wrongSpans() {
		if s := wrong[0]; len(wrong) == 1 {
			got, ok := impl.SpansPut(list, 9, s)
			same(t, fmt.Sprint("wrong ", s), fmt.Sprint(got, ok), "[] false")
		}
	}
	got, ok := impl.SpansPut(nil, 0, span(0, 1, 5, 1))
	same(t, "no letters", fmt.Sprint(got, ok), "[] false")
}

func TestPutUpToTheMostSpans(t *testing.T) {
	most := manySpans(impl.SpanMax)
	got, ok := impl.SpansPut(most[1:], impl.TextMax, most[0])
	same(t, "the last one", fmt.Sprint(got, ok), fmt.Sprint(most, true))
	for _, s := range []impl.Span{span(30, 31, 5, 1), span(impl.SpanMax, impl.SpanMax+1, 5, 1)} {
		got, ok = impl.SpansPut(most, impl.TextMax, s)
		same(t, "one more", fmt.Sprint(got, ok), "[] false")
	}
	long := slices.Clone(most)
	long[impl.SpanMax-1].To = 40
	for _, s := range []impl.Span{span(20, 21, 5, 1), span(20, 21, 10, 0)} {
		got, ok = impl.SpansPut(long, impl.TextMax, s)
		same(t, "in the middle", fmt.Sprint(got, ok), "[] false")
	}
	for _, s := range []impl.Span{span(3, 4, 5, 1), span(20, 40, 10, 0), span(20, 21, 2, 0), span(40, 41, 2, 0), span(60, 70, 10, 0)} {
		if got, ok = impl.SpansPut(long, impl.TextMax, s); !ok || len(got) != impl.SpanMax {
			t.Errorf("%v: %v %v", s, got, ok)
		}
	}
	// More were handed in than are left, so that one more has room.
	alike := spans{}
	for at := range impl.SpanMax {
		alike = append(alike, span(at, at+1, 5, 1))
	}
	got, ok = impl.SpansPut(alike, impl.TextMax, span(3, 4, 6, 1))
	same(t, "alike", fmt.Sprint(got, ok), "[{0 3 5 1} {3 4 6 1} {4 12 5 1}] true")
}

func TestPutByLetters(t *testing.T) {
	refused := 0
	someSpans(3000, func(list spans, count int, d *dice) {
		if count == 0 {
			return
		}
		s := span(d.below(count), 0, impl.SizeBase+d.below(3)-1, d.below(2))
		s.To = s.From + 1 + d.below(min(count-s.From, 1+d.below(40)))
		want := lookingOf(list, count)
		for at := s.From; at < s.To; at++ {
			want[at] = looking{s.Size, s.Mark}
		}
		got, ok := impl.SpansPut(list, count, s)
		plain := plainOf(want)
		if len(plain) > impl.SpanMax {
			refused++
			same(t, "refused", fmt.Sprint(got, ok), "[] false")
			return
		}
		same(t, fmt.Sprint(list, s), fmt.Sprint(got, ok), fmt.Sprint(plain, true))
		again, ok := impl.SpansPut(got, count, s)
		same(t, "again", fmt.Sprint(again, ok), fmt.Sprint(got, true))
	})
	if refused < 10 {
		t.Errorf("%d were refused, too few to tell", refused)
	}
}

// P27: Letters that come in look as the one ahead of them, and all others as they did.
func TestLettersComeAndGo(t *testing.T) {
	list := spans{span(0, 3, 20, 0), span(3, 5, 7, 2), span(6, 7, 10, 0)}
	for i, c := range []struct {
		at, n int
		want  string
	}{
		{0, 0, "[{0 3 20 0} {3 5 7 2}]"}, {9, 0, "[{0 3 20 0} {3 5 7 2}]"}, {0, 1, "[{1 4 20 0} {4 6 7 2}]"}, {1, 2, "[{0 5 20 0} {5 7 7 2}]"}, {3, 2, "[{0 5 20 0} {5 7 7 2}]"},
		{4, 1, "[{0 3 20 0} {3 6 7 2}]"}, {5, 1, "[{0 3 20 0} {3 6 7 2}]"}, {6, 1, "[{0 3 20 0} {3 5 7 2}]"}, {9, 71, "[{0 3 20 0} {3 5 7 2}]"}, {0, 71, "[{71 74 20 0} {74 76 7 2}]"}, {5, 71, "[{0 3 20 0} {3 76 7 2}]"},
		{0, 72, "[]"}, {9, 72, "[]"}, {0, 1<<63 - 1, "[]"}, {-1, 1, "[]"}, {10, 0, "[]"}, {10, 1, "[]"}, {10, 2, "[]"}, {12, 40, "[]"}, {10, -1, "[]"}, {-1, -1, "[]"}, {-1, 0, "[]"}, {1<<63 - 1, 1, "[]"}, {-1 << 63, 1, "[]"},
		{0, -1, "[{0 2 20 0} {2 4 7 2}]"}, {0, -3, "[{0 2 7 2}]"}, {0, -4, "[{0 1 7 2}]"}, {2, -2, "[{0 2 20 0} {2 3 7 2}]"}, {3, -2, "[{0 3 20 0}]"}, {3, -6, "[{0 3 20 0}]"}, {8, -1, "[{0 3 20 0} {3 5 7 2}]"},
		{0, -9, "[]"}, {0, -10, "[]"}, {3, -7, "[]"}, {9, -1, "[]"}, {8, -2, "[]"}, {0, -1 << 63, "[]"}, {9, -1 << 63, "[]"}, {-1 << 63, -1 << 63, "[]"}, {1<<63 - 1, -1 << 63, "[]"}, {1<<63 - 1, 1<<63 - 1, "[]"},
	} {
		same(t, fmt.Sprint("case ", i), impl.SpansMove(list, 9, c.at, c.n), c.want)
	}
	// What stood between two that look alike is gone.
	same(t, "alike", impl.SpansMove(spans{span(0, 2, 5, 1), span(2, 3, 6, 1), span(4, 6, 5, 1)}, 9, 2, -2), "[{0 4 5 1}]")
	same(t, "at the end", impl.SpansMove(spans{span(7, 9, 5, 1)}, 9, 9, 3), "[{7 12 5 1}]")
	same(t, "no letters", impl.SpansMove(nil, 0, 0, impl.TextMax), "[]")
	same(t, "full", impl.SpansMove(spans{span(79, 80, 5, 1)}, impl.TextMax, 80, 0), "[{79 80 5 1}]")
	same(t, "too full", impl.SpansMove(spans{span(79, 80, 5, 1)}, impl.TextMax, 80, 1), "[]")
	same(t, "the most spans", impl.SpansMove(manySpans(impl.SpanMax), impl.TextMax-1, 0, 1)[impl.SpanMax-1], "{12 13 2 0}")
}

func TestMoveByLetters(t *testing.T) {
	someSpans(3000, func(list spans, count int, d *dice) {
		all := lookingOf(list, count)
		at := d.below(count + 1)
		come := d.below(min(impl.TextMax-count, 9) + 1)
		as := plainLooking()
		if at > 0 {
			as = all[at-1]
		}
		want := slices.Insert(slices.Clone(all), at, slices.Repeat([]looking{as}, come)...)
		got := impl.SpansMove(list, count, at, come)
		same(t, fmt.Sprint(list, at, come), got, plainOf(want))
		same(t, "taken out again", impl.SpansMove(got, count+come, at, -come), impl.SpansPlain(list, count))
		gone := d.below(count - at + 1)
		want = slices.Delete(slices.Clone(all), at, at+gone)
		same(t, fmt.Sprint(list, at, -gone), impl.SpansMove(list, count, at, -gone), plainOf(want))
	})
}

// P28: A cluster is as wide as its widest letter, by its size.
func TestWidths(t *testing.T) {
	for i, c := range []struct {
		text string
		list spans
		want string
	}{
		{"", nil, "[]"}, {"a", nil, "[100]"}, {"ae\u0301 w", spans{span(1, 2, 20, 0)}, "[100 200 0 60 160]"}, {"ae\u0301 w", spans{span(2, 3, 20, 0)}, "[100 100 0 60 160]"},
		{"\u0301\u0302a", spans{span(0, 3, 5, 0)}, "[0 0 50]"}, {"\r\n", nil, "[0 0]"}, {"\U0001f1e6\U0001f1e7\U0001f1e8", spans{span(1, 3, 3, 0)}, "[100 0 30]"},
		{"\u0301", nil, "[0]"}, {"m\u200dm", spans{span(2, 3, impl.SizeMax, 9)}, "[160 0 640]"}, {"\t", spans{span(0, 1, impl.SizeMax, 9)}, "[1600]"}, {"a", spans{span(0, 1, 1, 0)}, "[10]"},
	} {
		same(t, fmt.Sprint("case ", i), impl.WidesOf(runesOf(c.text), c.list), c.want)
	}
	d := dice(5)
	someTexts(500, func(runes []int) {
		var list spans
		for at := 0; at < len(runes) && len(list) < impl.SpanMax; at += 3 {
			list = append(list, span(at, min(at+1+d.below(3), len(runes)), 1+d.below(impl.SizeMax), d.below(10)))
		}
		got := impl.WidesOf(runes, list)
		if len(got) != len(runes) {
			t.Fatalf("%v: %v", runes, got)
		}
		for at, wide := range got {
			want := 0
			if impl.ClusterAt(runes, at) == at {
				want = lookingOf(list, len(runes))[at][0] * impl.ClusterWide(runes, at)
			}
			if wide != want {
				t.Fatalf("%v %v: %v at %d, want %d", runes, list, got, at, want)
			}
		}
	})
}

func TestWidthsOfWrongThings(t *testing.T) {
	for i, runes := range badLetters() {
		if got := impl.WidesOf(runes, nil); len(got) != 0 {
			t.Errorf("case %d: %v", i, got)
		}
	}
	for i, list := range wrongSpans() {
		if got := impl.WidesOf(repeated('a', 9), list); len(got) != 0 {
			t.Errorf("spans %d: %v", i, got)
		}
	}
	if got := impl.WidesOf(nil, spans{span(0, 1, 5, 1)}); len(got) != 0 {
		t.Error(got)
	}
	same(t, "all of them", impl.WidesOf(repeated('a', 3), spans{span(0, 3, 2, 1)}), "[20 20 20]")
	same(t, "one more", impl.WidesOf(repeated('a', 3), spans{span(0, 4, 2, 1)}), "[]")
	same(t, "too many", impl.WidesOf(repeated('a', 20), manySpans(impl.SpanMax+1)), "[]")
}
