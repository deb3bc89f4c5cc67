package tests

import (
	"slices"
	"testing"

	"loop.example/colophon/impl"
)

// Classes, for short.
const (
	cL   = impl.BidiL
	cR   = impl.BidiR
	cAL  = impl.BidiAL
	cEN  = impl.BidiEN
	cES  = impl.BidiES
	cET  = impl.BidiET
	cAN  = impl.BidiAN
	cCS  = impl.BidiCS
	cNSM = impl.BidiNSM
	cBN  = impl.BidiBN
	cS   = impl.BidiS
	cWS  = impl.BidiWS
	cON  = impl.BidiON
	cLRE = impl.BidiLRE
	cLRI = impl.BidiLRI
	cRLI = impl.BidiRLI
	cFSI = impl.BidiFSI
	cPDI = impl.BidiPDI
)

func TestRulesForFiguresAndSigns(t *testing.T) {
	for _, c := range []struct {
		before  int
		classes []int
		want    []int
	}{
		{cL, nil, nil},
		// 1: what stands on others.
		{cL, []int{cNSM, cNSM}, []int{cL, cL}},
		{cR, []int{cNSM, cNSM}, []int{cR, cR}},
		{cR, []int{cLRI, cNSM, cNSM, cRLI, cNSM, cFSI, cNSM, cPDI, cNSM}, []int{cLRI, cON, cON, cRLI, cON, cFSI, cON, cPDI, cON}},
		{cR, []int{cL, cNSM, cAL, cNSM, cWS, cNSM, cBN, cNSM, cLRE, cNSM}, []int{cL, cL, cR, cR, cWS, cWS, cBN, cBN, cLRE, cLRE}},
		{cR, []int{cEN, cNSM, cCS, cEN, cAN, cNSM}, []int{cEN, cEN, cEN, cEN, cAN, cAN}},
		// 2: figures behind letters of some.
		{cR, []int{cAL, cEN}, []int{cR, cAN}},
		{cR, []int{cAL, cWS, cON, cEN, cR, cEN, cAL, cAN, cEN, cL, cEN}, []int{cR, cWS, cON, cAN, cR, cEN, cR, cAN, cAN, cL, cL}},
		{cR, []int{cAL, cNSM, cEN}, []int{cR, cR, cAN}},
		// 4: signs between figures.
		{cR, []int{cEN, cES, cEN, cCS, cEN}, []int{cEN, cEN, cEN, cEN, cEN}},
		{cR, []int{cAN, cCS, cAN, cES, cAN}, []int{cAN, cAN, cAN, cON, cAN}},
		{cR, []int{cEN, cCS, cAN, cCS, cEN}, []int{cEN, cON, cAN, cON, cEN}},
		{cR, []int{cEN, cES, cES, cEN, cCS, cCS, cEN}, []int{cEN, cON, cON, cEN, cON, cON, cEN}},
		{cR, []int{cCS, cEN, cES}, []int{cON, cEN, cON}},
		{cR, []int{cAL, cEN, cES, cEN, cCS, cEN}, []int{cR, cAN, cON, cAN, cAN, cAN}},
		{cR, []int{cR, cCS, cR, cES, cR}, []int{cR, cON, cR, cON, cR}},
		// 5: signs beside figures.
		{cR, []int{cET, cET, cEN, cET, cET}, []int{cEN, cEN, cEN, cEN, cEN}},
		{cR, []int{cET, cET, cAN, cET}, []int{cON, cON, cAN, cON}},
		{cR, []int{cAL, cET, cEN, cET}, []int{cR, cON, cAN, cON}},
		{cR, []int{cET, cWS, cEN, cWS, cET}, []int{cON, cWS, cEN, cWS, cON}},
		{cR, []int{cEN, cET, cES, cEN, cCS, cET}, []int{cEN, cEN, cON, cEN, cON, cON}},
		{cR, []int{cET}, []int{cON}},
		{cR, []int{cET, cNSM, cEN}, []int{cEN, cEN, cEN}},
		// 6: signs that are left.
		{cL, []int{cES, cET, cCS}, []int{cON, cON, cON}},
		// 7: figures of the left.
		{cL, []int{cEN, cWS, cEN}, []int{cL, cWS, cL}},
		{cR, []int{cEN, cL, cWS, cEN, cR, cEN}, []int{cEN, cL, cWS, cL, cR, cEN}},
		{cL, []int{cL, cEN, cES, cEN, cET}, []int{cL, cL, cL, cL, cL}},
		{cL, []int{cAN, cEN, cAL, cL, cAN, cEN}, []int{cAN, cL, cR, cL, cAN, cL}},
	} {
		same(t, "figures and signs", impl.LevelWeak(c.classes, c.before), c.want)
	}
}

// P12: Behind rules for figures and signs no letter of some, no sign and nothing that stands on others is left.
func TestNothingWeakIsLeft(t *testing.T) {
	someClasses(2000, func(classes []int, d *dice) {
		before := 1 + d.below(2)
		weak := impl.LevelWeak(classes, before)
		if len(weak) != len(classes) {
			t.Fatalf("%v: %v", classes, weak)
		}
		for at, class := range classes {
			if slices.Contains([]int{cAL, cES, cET, cCS, cNSM}, weak[at]) {
				t.Fatalf("%v: %v at %d", classes, weak, at)
			}
			if class == cL && weak[at] != cL || (class == cR || class == cAL) && weak[at] != cR {
				t.Fatalf("%v: %v at %d", classes, weak, at)
			}
			if slices.Contains([]int{cAN, cBN, cS, cWS, cON}, class) && weak[at] != class || class >= cLRE && weak[at] != class {
				t.Fatalf("%v: %v at %d", classes, weak, at)
			}
		}
		same(t, "again", impl.LevelWeak(weak, before), weak)
	})
}

func TestRulesForWhatHasNoSide(t *testing.T) {
	for _, c := range []struct {
		before, after, level int
		classes              []int
		want                 []int
	}{
		{cL, cL, 0, nil, nil},
		{cL, cL, 1, []int{cON}, []int{cL}},
		{cR, cR, 0, []int{cON, cWS, cS, cLRI, cRLI, cFSI, cPDI}, []int{cR, cR, cR, cR, cR, cR, cR}},
		{cL, cR, 0, []int{cON}, []int{cL}},
		{cL, cR, 1, []int{cON}, []int{cR}},
		{cR, cL, 22, []int{cON}, []int{cL}},
		{cR, cL, 21, []int{cON}, []int{cR}},
		{cL, cL, 0, []int{cR, cWS, cR, cWS, cL, cON, cL}, []int{cR, cR, cR, cL, cL, cL, cL}},
		{cL, cL, 0, []int{cEN, cWS, cAN, cON, cR, cS}, []int{cEN, cR, cAN, cR, cR, cL}},
		{cL, cL, 1, []int{cWS, cEN, cWS}, []int{cR, cEN, cR}},
		{cL, cL, 0, []int{cAL, cON, cAL}, []int{cAL, cL, cAL}},
		{cR, cR, 0, []int{cON, cAL, cON, cBN, cON, cBN}, []int{cL, cAL, cL, cBN, cL, cBN}},
		{cR, cR, 0, []int{cES, cON, cES, cON, cNSM, cON, cNSM, cON}, []int{cES, cL, cES, cL, cNSM, cL, cNSM, cL}},
		{cR, cR, 1, []int{cL, cON, cLRE, cON, cL}, []int{cL, cR, cLRE, cR, cL}},
	} {
		same(t, "no side", impl.LevelPlain(c.classes, c.before, c.after, c.level), c.want)
	}
}

// P13: What has no side of its own gets one, and all else stays.
func TestWhatHasNoSideGetsOne(t *testing.T) {
	someClasses(2000, func(classes []int, d *dice) {
		before, after, level := 1+d.below(2), 1+d.below(2), d.below(impl.LevelMax+3)
		plain := impl.LevelPlain(classes, before, after, level)
		if len(plain) != len(classes) {
			t.Fatalf("%v: %v", classes, plain)
		}
		for at, class := range classes {
			none := slices.Contains([]int{cS, cWS, cON, cLRI, cRLI, cFSI, cPDI}, class)
			if none && plain[at] != cL && plain[at] != cR || !none && plain[at] != class {
				t.Fatalf("%v: %v at %d", classes, plain, at)
			}
			if none && at > 0 && at+1 < len(classes) && classes[at-1] == classes[at+1] && (classes[at-1] == cL || classes[at-1] == cR) && plain[at] != classes[at-1] {
				t.Fatalf("%v: %v at %d between two of one side", classes, plain, at)
			}
		}
		same(t, "again", impl.LevelPlain(plain, before, after, level), plain)
	})
}

func TestBracketsThatGoTogether(t *testing.T) {
	for _, c := range []struct {
		text string
		want string
	}{
		{"", "[]"}, {"(", "[]"}, {")", "[]"}, {")(", "[]"}, {"()", "[[0 1]]"}, {"(]", "[]"}, {"<>", "[]"},
		{"([{}])", "[[0 5] [1 4] [2 3]]"},
		{"()[]{}", "[[0 1] [2 3] [4 5]]"},
		{"([)]", "[[0 2]]"},
		{"([)](]", "[[0 2]]"},
		{"(()", "[[1 2]]"},
		{"(()))", "[[0 3] [1 2]]"},
		{"[(])", "[[0 2]]"},
		{"(a[b)c]d)", "[[0 4]]"},
		{"[([)]]", "[[0 4] [1 3]]"},
		{"{(}])", "[[0 2]]"},
	} {
		runes := runesOf(c.text)
		same(t, c.text, impl.LevelMates(runes, repeated(cON, len(runes))), c.want)
	}
	same(t, "another class", impl.LevelMates(runesOf("(())"), []int{cON, cL, cON, cON}), "[[0 2]]")
	same(t, "another class", impl.LevelMates(runesOf("(())"), []int{cON, cON, cR, cON}), "[[1 3]]")
	same(t, "another class", impl.LevelMates(runesOf("()"), []int{cWS, cON}), "[]")
	same(t, "no bracket", impl.LevelMates(runesOf("ab"), []int{cON, cON}), "[]")
	deep := joined(repeated('(', 40), repeated(')', 40))
	mates := impl.LevelMates(deep, repeated(cON, 80))
	for i, pair := range mates {
		same(t, "deep", pair, []int{i, 79 - i})
	}
	same(t, "deep", len(mates), 40)
}

// P14: Brackets that go together are of one kind, and no two pairs cross.
func TestNoTwoPairsCross(t *testing.T) {
	kinds := runesOf("()[]{}a")
	d := dice(4)
	for range 2000 {
		runes := make([]int, d.below(impl.TextMax+1))
		classes := make([]int, len(runes))
		for i := range runes {
			runes[i] = kinds[d.below(len(kinds))]
			classes[i] = cON - d.below(8)/7
		}
		mates := impl.LevelMates(runes, classes)
		for i, pair := range mates {
			if len(pair) != 2 || pair[0] >= pair[1] || impl.RuneMate(runes[pair[0]]) != runes[pair[1]] || runes[pair[0]] > runes[pair[1]] || classes[pair[0]] != cON || classes[pair[1]] != cON {
				t.Fatalf("%v: %v", runes, pair)
			}
			for _, other := range mates[i+1:] {
				if other[0] <= pair[0] || other[0] == pair[1] || other[1] == pair[1] || other[0] < pair[1] && other[1] > pair[1] {
					t.Fatalf("%v: %v and %v", runes, pair, other)
				}
			}
		}
	}
}

func TestRulesRefuseWhatIsNotOk(t *testing.T) {
	full := repeated(cON, impl.TextMax)
	same(t, "as many as may be", []int{len(impl.LevelWeak(full, cL)), len(impl.LevelPlain(full, cL, cR, 22)), len(impl.LevelMates(repeated('(', 80), full))}, []int{80, 80, 0})
	for _, bad := range [][]int{{0}, {23}, {1, -1}, {1, 2, 1 << 40}, repeated(1, impl.TextMax+1)} {
		same(t, "bad classes", []int{len(impl.LevelWeak(bad, cL)), len(impl.LevelPlain(bad, cL, cL, 0))}, []int{0, 0})
		runes := append(runesOf("()"), repeated('a', len(bad))...)
		same(t, "bad classes", len(impl.LevelMates(runes, append([]int{cON, cON}, bad...))), 0)
	}
	one := []int{cON}
	for _, side := range []int{0, -1, 3, cAL, cEN, 1 << 40} {
		same(t, "bad sides", []int{len(impl.LevelWeak(one, side)), len(impl.LevelPlain(one, side, cL, 0)), len(impl.LevelPlain(one, cL, side, 0))}, []int{0, 0, 0})
	}
	for _, level := range []int{-1, impl.LevelMax + 3, 1 << 40, -1 << 63} {
		same(t, "bad levels", len(impl.LevelPlain(one, cL, cL, level)), 0)
	}
	same(t, "good levels", []int{len(impl.LevelPlain(one, cL, cL, 0)), len(impl.LevelPlain(one, cL, cL, impl.LevelMax+2))}, []int{1, 1})
	pair, classes := runesOf("()"), []int{cON, cON}
	same(t, "unlike many", []int{len(impl.LevelMates(pair, classes[:1])), len(impl.LevelMates(pair[:1], classes)), len(impl.LevelMates(pair, append(classes, cON)))}, []int{0, 0, 0})
	for _, bad := range badLetters() {
		runes := append(runesOf("()"), bad...)
		same(t, "bad letters", len(impl.LevelMates(runes, repeated(cON, len(runes)))), 0)
	}
}
