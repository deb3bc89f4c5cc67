package tests

import (
	"strings"
	"testing"

	"loop.example/colophon/impl"
)

// P1: Letters can be written as bytes and read again without a change.
func TestLettersAreWrittenAndReadAgain(t *testing.T) {
	for _, r := range []int{0, 1, 127, 128, 2047, 2048, 55295, 57344, 65533, 65535, 65536, 1114111} {
		text := impl.Utf8Put([]int{r})
		same(t, "written", text, string(rune(r)))
		letters, ok := impl.Utf8Get(text)
		if !ok || len(letters) != 1 || letters[0] != r {
			t.Errorf("letter %d: read %v %v", r, letters, ok)
		}
	}
	someTexts(500, func(runes []int) {
		letters, ok := impl.Utf8Get(impl.Utf8Put(runes))
		if !ok {
			t.Errorf("%v is not read", runes)
		}
		same(t, "read", letters, runes)
	})
}

// P1, the other way round, at the edges of what is a text.
func TestTextsAreReadAndWrittenAgain(t *testing.T) {
	for _, text := range []string{"", "a", "a\u05d0\u20ac\U0001f600", "\ufffd", "\x00", strings.Repeat("\U0010ffff", impl.TextMax)} {
		letters, ok := impl.Utf8Get(text)
		if !ok || impl.Utf8Put(letters) != text {
			t.Errorf("%q: %v %v", text, letters, ok)
		}
		same(t, text, letters, runesOf(text))
	}
}

func TestWrongTextsAreNone(t *testing.T) {
	wrong := []string{
		"\x80", "a\xbf", "\xc0\x80", "\xc1\xbf", "\xc3", "\xc3a", "\xe0\x80\x80", "\xe0\x9f\xbf", "\xe2\x82", "\xed\xa0\x80", "\xed\xbf\xbf",
		"\xf0\x80\x80\x80", "\xf0\x8f\xbf\xbf", "\xf0\x9f\x98", "\xf4\x90\x80\x80", "\xf5\x80\x80\x80", "\xff", "\xfe\xff", "ok\xffok",
		strings.Repeat("a", impl.TextMax+1), strings.Repeat("\u05d0", impl.TextMax+1), strings.Repeat("a", impl.TextMax) + "\x80",
	}
	for _, text := range wrong {
		if letters, ok := impl.Utf8Get(text); ok || len(letters) != 0 {
			t.Errorf("%q: %v %v", text, letters, ok)
		}
	}
	for i, runes := range badLetters() {
		if text := impl.Utf8Put(runes); text != "" {
			t.Errorf("case %d: %q", i, text)
		}
	}
	same(t, "no letters", impl.Utf8Put(nil), "")
}

// P2: Text behind text is letters behind letters.
func TestTextBehindText(t *testing.T) {
	parts := []string{"", "a", "\u05d0b", "\u20ac", "\U0001f600!", "e\u0301", "\r\n"}
	for _, a := range parts {
		for _, b := range parts {
			left, _ := impl.Utf8Get(a)
			right, _ := impl.Utf8Get(b)
			both, ok := impl.Utf8Get(a + b)
			if !ok {
				t.Errorf("%q is not read", a+b)
			}
			same(t, a+b, both, joined(left, right))
		}
	}
	half := strings.Repeat("\u05d0", impl.TextMax/2)
	if both, ok := impl.Utf8Get(half + half); !ok || len(both) != impl.TextMax {
		t.Error("as many as there may be are refused")
	}
	if _, ok := impl.Utf8Get(half + half + "a"); ok {
		t.Error("one more is taken")
	}
}

// P2: a text cut within a letter is none.
func TestTextCutWithinALetter(t *testing.T) {
	text := "a\u05d0\u20ac\U0001f600z"
	borders := map[int]bool{0: true}
	for at, r := range text {
		borders[at+len(string(r))] = true
	}
	for cut := 0; cut <= len(text); cut++ {
		_, ahead := impl.Utf8Get(text[:cut])
		_, behind := impl.Utf8Get(text[cut:])
		if ahead != borders[cut] || behind != borders[cut] {
			t.Errorf("cut at %d: %v %v", cut, ahead, behind)
		}
	}
}

// P3: What looks like something in a mirror looks like that in a mirror.
func TestMirrorsAndMates(t *testing.T) {
	for r := -300; r < 70000; r++ {
		mirror, mate := impl.RuneMirror(r), impl.RuneMate(r)
		if impl.RuneMirror(mirror) != r || impl.RuneBidi(mirror) != impl.RuneBidi(r) {
			t.Fatalf("mirror of %d: %d", r, mirror)
		}
		if mate != 0 && (impl.RuneMate(mate) != r || mate != mirror) {
			t.Fatalf("mate of %d: %d", r, mate)
		}
	}
	for _, pair := range []string{"()", "[]", "{}"} {
		same(t, pair, []int{impl.RuneMate(int(pair[0])), impl.RuneMate(int(pair[1]))}, []int{int(pair[1]), int(pair[0])})
		same(t, pair, []int{impl.RuneMirror(int(pair[0])), impl.RuneMirror(int(pair[1]))}, []int{int(pair[1]), int(pair[0])})
	}
	same(t, "<>", []int{impl.RuneMirror('<'), impl.RuneMirror('>'), impl.RuneMate('<'), impl.RuneMate('>')}, []int{'>', '<', 0, 0})
	for _, r := range []int{'a', 0, -1, '/', '\\', 171, 187, 1114112, -1 << 63, 1<<63 - 1} {
		same(t, "no mirror", []int{impl.RuneMirror(r), impl.RuneMate(r)}, []int{r, 0})
	}
}

type classRow struct {
	first, last, class, wide int
}

// classRows is the table of classes, as the document has it, with the width of what has no width of its own there.
func classRows() []classRow {
	return []classRow{
		{'a', 'z', impl.BidiL, 10}, {'A', 'Z', impl.BidiL, 10}, {19968, 40959, impl.BidiL, 20},
		{1488, 1514, impl.BidiR, 12}, {1569, 1610, impl.BidiAL, 12},
		{'0', '9', impl.BidiEN, 10}, {1632, 1641, impl.BidiAN, 10},
		{'+', '+', impl.BidiES, 10}, {'-', '-', impl.BidiES, 10},
		{'#', '#', impl.BidiET, 10}, {'$', '$', impl.BidiET, 10}, {'%', '%', impl.BidiET, 10},
		{',', ',', impl.BidiCS, 6}, {'.', '.', impl.BidiCS, 6}, {'/', '/', impl.BidiCS, 6}, {':', ':', impl.BidiCS, 6},
		{768, 879, impl.BidiNSM, 0},
		{8203, 8203, impl.BidiBN, 0}, {8205, 8205, impl.BidiBN, 0}, {173, 173, impl.BidiBN, 0},
		{9, 9, impl.BidiS, 40}, {32, 32, impl.BidiWS, 6},
		{8234, 8234, impl.BidiLRE, 0}, {8235, 8235, impl.BidiRLE, 0}, {8236, 8236, impl.BidiPDF, 0},
		{8237, 8237, impl.BidiLRO, 0}, {8238, 8238, impl.BidiRLO, 0},
		{8294, 8294, impl.BidiLRI, 0}, {8295, 8295, impl.BidiRLI, 0}, {8296, 8296, impl.BidiFSI, 0}, {8297, 8297, impl.BidiPDI, 0},
	}
}

func rowOf(r int) (class int, wide int) {
	class, wide = impl.BidiON, 10
	for _, row := range classRows() {
		if r >= row.first && r <= row.last {
			class, wide = row.class, row.wide
			break
		}
	}
	switch r {
	case 10, 13:
		wide = 0
	case 'i', 'j', 'l', 'f', 't':
		wide = 6
	case 'm', 'w':
		wide = 16
	}
	return class, wide
}

// Each row of the table with all its letters, and all numbers right beside them.
func TestClassesAndWidths(t *testing.T) {
	check := func(r int) {
		class, wide := rowOf(r)
		if impl.RuneBidi(r) != class || impl.RuneWide(r) != wide {
			t.Errorf("letter %d: class %d, width %d; want %d, %d", r, impl.RuneBidi(r), impl.RuneWide(r), class, wide)
		}
	}
	for r := -100; r < 42000; r++ {
		check(r)
	}
	for _, r := range []int{-1 << 63, -1 << 31, 55296, 57343, 65536, 127462, 1114111, 1114112, 1 << 40, 1<<63 - 1} {
		check(r)
	}
}
