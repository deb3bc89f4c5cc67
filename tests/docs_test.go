package tests

import (
	"fmt"
	"slices"
	"strings"
	"testing"

	"loop.example/colophon/impl"
)

func doc(gap int, paras ...impl.Para) impl.Doc {
	return impl.Doc{Paras: paras, Gap: gap}
}

// plain is a paragraph of a text that needs no more words.
func plain(text string) impl.Para {
	return para(text, impl.BaseAuto, 300, 0, 0)
}

// someDocs hands on documents that are ok, some paragraphs without lines among them.
func someDocs(times int, each func(d impl.Doc, known []filled, dice *dice)) {
	var paras []impl.Para
	var pool []filled
	someParas(150, func(p impl.Para, f filled, d *dice) {
		paras, pool = append(paras, p), append(pool, f)
	})
	d := dice(13)
	for range times {
		one := impl.Doc{Gap: []int{0, impl.GapMax, d.below(impl.GapMax)}[d.below(3)]}
		var known []filled
		for range d.below(impl.DocMax + 1) {
			at := d.below(len(paras))
			if d.below(4) == 0 {
				one.Paras, known = append(one.Paras, plain("")), append(known, filledOf(nil, nil, 300))
				continue
			}
			one.Paras, known = append(one.Paras, paras[at]), append(known, pool[at])
		}
		each(one, known, &d)
	}
}

// placesOf is where all lines stand, and how far down all ends, from lines and looks that are told without the program's.
func placesOf(d impl.Doc, known []filled) ([]impl.Place, []impl.Line, int) {
	var places []impl.Place
	var lines []impl.Line
	y := 0
	for i, p := range d.Paras {
		looks := lookingOf(p.Spans, len(known[i].runes))
		for j, l := range linesOfPara(p, known[i]) {
			high := 0
			for _, as := range looks[l.From:l.To] {
				high = max(high, 12*as[0])
			}
			places, lines = append(places, impl.Place{Para: i, Line: j, Y: y, High: high}), append(lines, l)
			y += high
		}
		if i+1 < len(d.Paras) {
			y += d.Gap
		}
	}
	return places, lines, y
}

func TestNumbersOfDocuments(t *testing.T) {
	same(t, "numbers", []int{impl.DocMax, impl.GapMax, impl.HighMax, impl.HighOne}, "[6 500 100000 12]")
}

func TestDocumentsThatAreOk(t *testing.T) {
	six := slices.Repeat([]impl.Para{plain("a")}, impl.DocMax)
	for i, d := range []impl.Doc{{}, doc(0), doc(impl.GapMax), doc(1, plain("")), doc(0, plain("a")), doc(impl.GapMax, six...), doc(0, impl.Para{}, impl.Para{}), {Paras: []impl.Para{}}} {
		same(t, fmt.Sprint("ok ", i), impl.DocOk(d), true)
	}
	for i, d := range wrongDocs() {
		same(t, fmt.Sprint("wrong ", i), impl.DocOk(d), false)
	}
	someDocs(50, func(d impl.Doc, known []filled, dice *dice) {
		same(t, "some", impl.DocOk(d), true)
	})
}

// wrongDocs is documents that are not ok.
func wrongDocs() []impl.Doc {
	a := plain("a")
	seven := slices.Repeat([]impl.Para{a}, impl.DocMax+1)
	list := []impl.Doc{doc(0, seven...), doc(0, make([]impl.Para, impl.DocMax+1)...), doc(0, slices.Repeat(seven, 500)...)}
	for _, gap := range []int{-1, impl.GapMax + 1, least, most} {
		list = append(list, doc(gap), doc(gap, a), doc(gap, a, a))
	}
	for _, c := range wrongParas() {
		list = append(list, doc(0, c.p), doc(30, c.p, a), doc(0, a, c.p), doc(0, a, a, a, a, a, c.p))
	}
	return list
}

func checkNoDoc(t *testing.T, what string, d impl.Doc, ok bool) {
	t.Helper()
	same(t, what, fmt.Sprintf("%+v %v", d, ok), fmt.Sprintf("%+v false", impl.Doc{}))
}

func checkDoc(t *testing.T, what string, d impl.Doc, ok bool, want impl.Doc) {
	t.Helper()
	same(t, what, fmt.Sprintf("%+v %v", d, ok), fmt.Sprintf("%+v true", want))
}

func checkDocHit(t *testing.T, what string, d impl.Doc, x int, y int, want string) {
	t.Helper()
	para, at, ok := impl.DocHit(d, x, y)
	same(t, fmt.Sprint(what, " at ", x, " ", y), fmt.Sprint(para, at, ok), want)
}

func TestNothingOfWrongDocuments(t *testing.T) {
	for i, d := range wrongDocs() {
		what := fmt.Sprint("wrong ", i)
		same(t, what, impl.DocPlaces(d), "[]")
		same(t, what, impl.DocHigh(d), 0)
		checkDocHit(t, what, d, 0, 0, "0 0 false")
		same(t, what, impl.DocPages(d, 300), "[]")
		same(t, what, impl.DocText(d), "")
		for _, para := range []int{-1, 0, 1, len(d.Paras) - 1, len(d.Paras)} {
			split, ok := impl.DocSplit(d, para, 0)
			checkNoDoc(t, what, split, ok)
			joined, ok := impl.DocJoin(d, para)
			checkNoDoc(t, what, joined, ok)
		}
	}
}

// P65: Lines stand one below the other, none over another one.
// P66: A document is as high as all its lines and gaps.
func TestPlacesOfLines(t *testing.T) {
	none := plain("")
	for i, c := range []struct {
		d    impl.Doc
		want string
		high int
	}{
		{impl.Doc{}, "[]", 0}, {doc(30), "[]", 0}, {doc(30, none), "[]", 0}, {doc(30, none, none), "[]", 30}, {doc(impl.GapMax, none, none, none, none, none, none), "[]", 2500}, {doc(0, none, none), "[]", 0},
		{doc(30, plain("a")), "[{0 0 0 120}]", 120}, {doc(30, plain("a"), plain("b")), "[{0 0 0 120} {1 0 150 120}]", 270}, {doc(0, plain("a"), plain("b")), "[{0 0 0 120} {1 0 120 120}]", 240}, {doc(impl.GapMax, plain("a"), plain("b")), "[{0 0 0 120} {1 0 620 120}]", 740}, {doc(1, plain("a\n\nb"), plain("cd ef")), "[{0 0 0 120} {0 1 120 120} {0 2 240 120} {1 0 361 120} {1 1 481 120}]", 601},
		// Paragraphs without lines have their gap, at the beginning, within and at the end.
		{doc(30, none, plain("a")), "[{1 0 30 120}]", 150}, {doc(30, plain("a"), none), "[{0 0 0 120}]", 150}, {doc(30, plain("a"), none, plain("b")), "[{0 0 0 120} {2 0 180 120}]", 300}, {doc(30, none, plain("a"), none, none, plain("b\nc"), none), "[{1 0 30 120} {4 0 240 120} {4 1 360 120}]", 510},
		// The greatest size of a line's letters counts, seen or not.
		{doc(0, para("ab", 0, 300, 0, 0, span(0, 1, 20, 0))), "[{0 0 0 240}]", 240}, {doc(0, para("ab", 0, 300, 0, 0, span(1, 2, 20, 0))), "[{0 0 0 240}]", 240}, {doc(0, para("ab", 0, 300, 0, 0, span(0, 1, 5, 0))), "[{0 0 0 120}]", 120}, {doc(0, para("ab", 0, 300, 0, 0, span(0, 2, 5, 0))), "[{0 0 0 60}]", 60}, {doc(0, para("ab", 0, 300, 0, 0, span(0, 1, 5, 0), span(1, 2, 7, 9))), "[{0 0 0 84}]", 84}, {doc(0, para("a\nb", 0, 300, 0, 0, span(1, 2, impl.SizeMax, 0))), "[{0 0 0 480} {0 1 480 120}]", 600}, {doc(0, para("a\nb", 0, 300, 0, 0, span(2, 3, 1, 0))), "[{0 0 0 120} {0 1 120 12}]", 132}, {doc(0, para("a\n", 0, 300, 0, 0, span(0, 1, 1, 0))), "[{0 0 0 120}]", 120}, {doc(0, para("a\u200bb", 0, 300, 0, 0, span(0, 1, 1, 0), span(1, 2, 3, 0), span(2, 3, 2, 0))), "[{0 0 0 36}]", 36}, {doc(0, para("aa bb", 0, 300, 0, 0, span(2, 3, 30, 0))), "[{0 0 0 360} {0 1 360 120}]", 480}, {doc(0, para("\n\n", 0, 300, 0, 0, span(1, 2, 2, 0))), "[{0 0 0 120} {0 1 120 24}]", 144},
	} {
		what := fmt.Sprint("case ", i)
		same(t, what, impl.DocPlaces(c.d), c.want)
		same(t, what, impl.DocHigh(c.d), c.high)
	}
	tall := tallDoc()
	same(t, "as many lines as can be", len(impl.DocPlaces(tall)), impl.DocMax*impl.TextMax)
	same(t, "as high as can be", impl.DocHigh(tall), impl.DocMax*impl.TextMax*480)
}

// tallDoc is as many lines, each as high, as there can be.
func tallDoc() impl.Doc {
	return doc(0, slices.Repeat([]impl.Para{para(strings.Repeat("a", impl.TextMax), 0, 0, 0, 0, span(0, impl.TextMax, impl.SizeMax, 0))}, impl.DocMax)...)
}

func TestPlacesOfSomeLines(t *testing.T) {
	someDocs(300, func(d impl.Doc, known []filled, dice *dice) {
		places, _, high := placesOf(d, known)
		same(t, "places", impl.DocPlaces(d), places)
		same(t, "high", impl.DocHigh(d), high)
	})
}

// P67: Who points at a line of a document is told a letter of it.
func TestWhoPointsAtADocument(t *testing.T) {
	far := 2 * impl.WideMax
	d := doc(30, plain(""), plain("ab cd"), plain(""), para("\u05d0\u05d1", 2, 300, 0, 0), plain(""))
	for i, c := range []struct {
		x, y int
		want string
	}{
		// Above the first line, which begins at 30, and at it.
		{0, 30, "1 0 true"}, {150, 30, "1 1 true"}, {0, 29, "1 0 true"}, {150, 0, "1 1 true"}, {150, -1, "1 1 true"}, {150, -impl.HighMax, "1 1 true"}, {0, 149, "1 0 true"},
		{0, 150, "1 3 true"}, {150, 200, "1 4 true"}, {0, 269, "1 3 true"},
		// Within gaps the line above is meant.
		{0, 270, "1 3 true"}, {150, 329, "1 4 true"}, {200, 330, "3 0 true"}, {100, 330, "3 1 true"}, {200, 449, "3 0 true"},
		// Below the last line.
		{200, 450, "3 0 true"}, {100, 480, "3 1 true"}, {200, 481, "3 0 true"}, {100, impl.HighMax, "3 1 true"},
		{far, 30, "1 2 true"}, {-far, 30, "1 0 true"}, {far, 330, "3 0 true"}, {-far, 330, "3 1 true"}, {-far, -impl.HighMax, "1 0 true"}, {far, impl.HighMax, "3 0 true"},
		{far + 1, 30, "0 0 false"}, {-far - 1, 30, "0 0 false"}, {0, impl.HighMax + 1, "0 0 false"}, {0, -impl.HighMax - 1, "0 0 false"}, {least, 0, "0 0 false"}, {most, 0, "0 0 false"}, {0, least, "0 0 false"}, {0, most, "0 0 false"},
	} {
		checkDocHit(t, fmt.Sprint("case ", i), d, c.x, c.y, c.want)
	}
	for _, none := range []impl.Doc{{}, doc(30), doc(0, plain("")), doc(impl.GapMax, plain(""), plain(""))} {
		checkDocHit(t, "without lines", none, 0, 0, "0 0 false")
	}
	// A line that has nothing wide tells its first letter.
	checkDocHit(t, "not wide", doc(0, plain("a\n\nb")), 50, 130, "0 2 true")
	// Lines may stand further down than who points may point.
	checkDocHit(t, "tall", tallDoc(), 0, impl.HighMax, "2 48 true")
	checkDocHit(t, "tall", tallDoc(), 0, 480*200-1, "2 39 true")
}

func TestWhoPointsAtSomeDocuments(t *testing.T) {
	someDocs(150, func(d impl.Doc, known []filled, dice *dice) {
		places, lines, high := placesOf(d, known)
		for range 10 {
			x, y := dice.below(2*impl.WideMax)-impl.WideMax/2, dice.below(high+100)-50
			if len(places) == 0 {
				checkDocHit(t, "none", d, x, y, "0 0 false")
				continue
			}
			if dice.below(2) == 0 {
				y = places[dice.below(len(places))].Y - dice.below(2)
			}
			hit := 0
			for i, p := range places {
				if p.Y <= y {
					hit = i
				}
			}
			at, _ := impl.LineHit(lines[hit], x)
			checkDocHit(t, "some", d, x, y, fmt.Sprint(places[hit].Para, at, true))
			told, _, ok := impl.ParaHit(d.Paras[places[hit].Para], places[hit].Line, x)
			same(t, "as the paragraph tells", fmt.Sprint(told, ok), fmt.Sprint(at, true))
		}
	})
}

// P68: No page is higher than it may be, but with one line alone, and none could take the next line.
func TestPages(t *testing.T) {
	three := doc(30, plain("a\nb"), plain("c"))
	uneven := doc(0, para("a\nb\nc\nd", 0, 300, 0, 0, span(2, 3, 30, 0)))
	far := doc(impl.GapMax, plain(""), plain("a"), plain(""), plain("b"), plain(""))
	for i, c := range []struct {
		d    impl.Doc
		high int
		want []int
	}{
		{three, 1, []int{0, 1, 2}}, {three, 119, []int{0, 1, 2}}, {three, 120, []int{0, 1, 2}}, {three, 239, []int{0, 1, 2}}, {three, 240, []int{0, 2}}, {three, 269, []int{0, 2}}, {three, 270, []int{0, 2}}, {three, 389, []int{0, 2}}, {three, 390, []int{0}}, {three, 391, []int{0}}, {three, impl.HighMax, []int{0}},
		// A page begins with its first line, so a gap ahead of that is none of its own.
		{doc(30, plain("a"), plain("b\nc")), 240, []int{0, 1}}, {doc(30, plain("a"), plain("b\nc")), 239, []int{0, 1, 2}}, {doc(30, plain("a"), plain("b\nc")), 270, []int{0, 2}}, {far, 119, []int{0, 1}}, {far, 1239, []int{0, 1}}, {far, 1240, []int{0}},
		// Lines are not all alike; one that is too high is alone.
		{uneven, 240, []int{0, 1, 2}}, {uneven, 359, []int{0, 1, 2}}, {uneven, 360, []int{0, 1, 2}}, {uneven, 479, []int{0, 1, 2}}, {uneven, 480, []int{0, 2}}, {uneven, 100, []int{0, 1, 2, 3}}, {uneven, 600, []int{0, 3}}, {uneven, 720, []int{0}},
		{impl.Doc{}, 100, nil}, {doc(30, plain("")), 100, nil}, {doc(30, plain(""), plain("")), impl.HighMax, nil}, {doc(30, plain("a")), 1, []int{0}},
		{three, 0, nil}, {three, -1, nil}, {three, impl.HighMax + 1, nil}, {three, least, nil}, {three, most, nil},
		{tallDoc(), impl.HighMax, []int{0, 208, 416}},
	} {
		same(t, fmt.Sprint("case ", i), impl.DocPages(c.d, c.high), c.want)
	}
}

func TestSomePages(t *testing.T) {
	someDocs(150, func(d impl.Doc, known []filled, dice *dice) {
		places, _, all := placesOf(d, known)
		for _, high := range []int{1, 120, max(all, 1), 1 + dice.below(all+100), 1 + dice.below(600)} {
			var want []int
			for from := 0; from < len(places); {
				want = append(want, from)
				to := from + 1
				for to < len(places) && places[to].Y+places[to].High <= places[from].Y+high {
					to++
				}
				from = to
			}
			same(t, "pages", impl.DocPages(d, high), want)
		}
	})
}

// P71: A document's text is that of its paragraphs.
func TestTextOfDocuments(t *testing.T) {
	for _, c := range []struct {
		d    impl.Doc
		want string
	}{
		{impl.Doc{}, ""}, {doc(0, plain("")), "\n"}, {doc(0, plain(""), plain("")), "\n\n"}, {doc(30, plain("a")), "a\n"}, {doc(30, plain("a\n"), plain(""), plain("\u05d0 b")), "a\n\n\n\u05d0 b\n"}, {doc(0, plain("\x00\U0010ffff")), "\x00\U0010ffff\n"},
	} {
		same(t, "text", fmt.Sprintf("%q", impl.DocText(c.d)), fmt.Sprintf("%q", c.want))
	}
	someDocs(100, func(d impl.Doc, known []filled, dice *dice) {
		want := ""
		for _, p := range d.Paras {
			want += p.Text + "\n"
		}
		same(t, "some", fmt.Sprintf("%q", impl.DocText(d)), fmt.Sprintf("%q", want))
	})
}
