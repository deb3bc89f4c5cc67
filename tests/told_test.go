package tests

import (
	"slices"
	"testing"

	"loop.example/colophon/impl"
)

func toldLevels(runes []int, base int) []int {
	levels, _ := impl.LevelsTold(runes, base)
	return levels
}

// lastTold is the level of a letter that stands behind all others.
func lastTold(base int, runes ...[]int) int {
	levels := toldLevels(append(joined(runes...), 'a'), base)
	if len(levels) == 0 {
		return -2
	}
	return levels[len(levels)-1]
}

func upAndUp(n int) []int {
	list := make([]int, n)
	for i := range list {
		list[i] = []int{rle, lre}[i%2]
	}
	return list
}

func TestToldLevelsAndClasses(t *testing.T) {
	for _, c := range []struct {
		runes   []int
		base    int
		levels  []int
		classes []int
	}{
		{nil, 0, nil, nil},
		{[]int{'a', 1488, 1570, '1'}, 0, []int{0, 0, 0, 0}, []int{1, 2, 3, 4}},
		{[]int{'a', 1488, 10, 9}, 1, []int{1, 1, 1, 1}, []int{1, 2, 13, 11}},
		{[]int{lre, 'a', pdf, 'b'}, 0, []int{-1, 2, -1, 0}, []int{0, 1, 0, 1}},
		{[]int{rle, 'a', pdf, 'b'}, 0, []int{-1, 1, -1, 0}, []int{0, 1, 0, 1}},
		{[]int{lre, 'a', pdf, 'b'}, 1, []int{-1, 2, -1, 1}, []int{0, 1, 0, 1}},
		{[]int{rle, 'a', pdf, 'b'}, 1, []int{-1, 3, -1, 1}, []int{0, 1, 0, 1}},
		{[]int{pdf, 'a', pdf, pdf, 'b'}, 1, []int{-1, 1, -1, -1, 1}, []int{0, 1, 0, 0, 1}},
		{[]int{lro, 1488, '1', 173, 768, lri, 1488, pdi, '!', pdf, '!'}, 0, []int{-1, 2, 2, -1, 2, 2, 4, 2, 2, -1, 0}, []int{0, 1, 1, 0, 1, 1, 2, 1, 1, 0, 13}},
		{[]int{rlo, 'a', rli, 'b', pdi, lre, 'c', pdf, 'd'}, 0, []int{-1, 1, 1, 3, 1, -1, 2, -1, 1}, []int{0, 2, 2, 1, 2, 0, 1, 0, 2}},
		{[]int{rlo, lro, 1488, pdf, 'a', pdf, 'a'}, 1, []int{-1, -1, 4, -1, 3, -1, 1}, []int{0, 0, 1, 0, 2, 0, 1}},
		{[]int{8203, 8205, 173, 'a'}, 0, []int{-1, -1, -1, 0}, []int{0, 0, 0, 1}},
		{[]int{rle, lri, pdf, 'a', pdi, 'b', pdf, 'c'}, 0, []int{-1, 1, -1, 2, 1, 1, -1, 0}, []int{0, 19, 0, 1, 22, 1, 0, 1}},
		{[]int{lri, rle, rle, 'a', pdi, 'b'}, 0, []int{0, -1, -1, 5, 0, 0}, []int{19, 0, 0, 1, 22, 1}},
		{[]int{rle, pdi, 'a', pdf, 'b'}, 0, []int{-1, 1, 1, -1, 0}, []int{0, 22, 1, 0, 1}},
		{[]int{rli, lri, 'a', pdi, 'b', pdi, 'c', pdi, 'd'}, 1, []int{1, 3, 4, 3, 3, 1, 1, 1, 1}, []int{20, 19, 1, 22, 1, 22, 1, 22, 1}},
		{[]int{rlo, rli, pdi, lri, 'a', pdf, 'b'}, 0, []int{-1, 1, 1, 1, 2, -1, 2}, []int{0, 2, 2, 2, 1, 0, 1}},
	} {
		levels, classes := impl.LevelsTold(c.runes, c.base)
		same(t, "levels", levels, c.levels)
		same(t, "classes", classes, c.classes)
	}
}

func TestSideOfWhatOpensByItself(t *testing.T) {
	for _, c := range []struct {
		runes []int
		want  int
	}{
		{[]int{fsi, 'a', pdi}, 2},
		{[]int{fsi, 1488, pdi}, 1},
		{[]int{fsi, 1570, 'a', pdi}, 1},
		{[]int{fsi, 'a', 1488, pdi}, 2},
		{[]int{fsi, '1', pdi, 1488}, 2},
		{[]int{fsi, '1', 1488}, 1},
		{[]int{fsi, '1', rli, 1488, pdi, pdi, 1488}, 2},
		{[]int{fsi, '1', rli, 1488, pdi, 1488, pdi}, 1},
		{[]int{fsi, '1', lri, 'a', pdi, 1488, pdi}, 1},
		{[]int{fsi, '1', lri, 'a', 1488}, 2},
		{[]int{fsi, '1', rli, 1488, 'a'}, 2},
		{[]int{lri, 'a', 1488}, 2},
		{[]int{lri, 1488}, 2},
		{[]int{rli, 'a'}, 1},
	} {
		if got := toldLevels(c.runes, 0); got[1] != c.want {
			t.Errorf("%v: %v", c.runes, got)
		}
	}
}

func TestLevelsUpToTheHighest(t *testing.T) {
	for n := 0; n <= 30; n++ {
		same(t, "left", lastTold(0, repeated(lre, n)), min(2*n, 20))
		same(t, "right", lastTold(0, repeated(rle, n)), max(0, min(2*n-1, 19)))
		same(t, "left on 1", lastTold(1, repeated(lre, n)), max(1, min(2*n, 20)))
		same(t, "right on 1", lastTold(1, repeated(rle, n)), min(2*n+1, 19))
		same(t, "by turns", lastTold(0, upAndUp(n)), min(n, 20))
		same(t, "alone", lastTold(0, repeated(rli, n)), max(0, min(2*n-1, 19)))
		same(t, "for all", lastTold(0, repeated(lro, n)), min(2*n, 20))
		same(t, "by itself", lastTold(0, repeated(fsi, n)), min(2*n, 20))
	}
}

// What does not come on the stack beyond the highest level is counted, and ends again before anything else does.
func TestWhatIsLostBeyondTheHighestLevel(t *testing.T) {
	top, odd := upAndUp(impl.LevelMax), repeated(rle, 10)
	for i, c := range []struct {
		want  int
		runes []int
	}{
		{20, joined(top, []int{rle, lre, lro, pdf, pdf, pdf})},
		{19, joined(top, []int{rle, lre, rlo, pdf, pdf, pdf, pdf})},
		{20, joined(top, []int{lri, pdf, pdf, pdf})},
		{20, joined(top, []int{lri, rle, rle, pdi})},
		{19, joined(top, []int{lri, rle, rle, pdi, pdf})},
		{20, joined(top, []int{lri, rli, pdi, pdf})},
		{19, joined(top, []int{lri, rli, pdi, pdi, pdf})},
		{19, joined(odd, []int{rle, lre})},
		{20, joined(odd, []int{lre})},
		{20, joined(odd, []int{rle, pdf, lre})},
		{19, joined(odd, []int{rle, lre, pdf, lre, pdf, pdf})},
		{17, joined(odd, []int{rle, lre, pdf, pdf, pdf})},
		{19, joined(odd, []int{rle, lri})},
		{19, joined(odd, []int{rle, lri, pdi, pdf})},
		{20, joined(odd, []int{rle, lri, pdi, pdf, lri})},
		{0, joined([]int{lri}, top, []int{rle, rle, pdi})},
		{1, joined([]int{lri}, top, []int{rle, rle, pdi, rle})},
		{20, joined([]int{lri}, top, []int{rle, rli, pdi})},
		{0, joined([]int{lri}, top, []int{rle, rli, pdi, pdi})},
		{1, joined([]int{rle, lri}, top, []int{rle, rle, pdi})},
		{0, joined([]int{rle, lri}, top, []int{rle, rle, pdi, pdf})},
		{0, joined([]int{lri}, repeated(lre, 30), []int{pdi, pdf})},
	} {
		if got := lastTold(0, c.runes); got != c.want {
			t.Errorf("case %d: %d, want %d", i, got, c.want)
		}
	}
}

func TestNothingIsToldOfWhatIsNotOk(t *testing.T) {
	good := repeated(1488, impl.TextMax)
	levels, classes := impl.LevelsTold(good, 1)
	same(t, "as many as may be", []int{len(levels), len(classes), len(impl.LevelsOf(good, 1)), len(impl.LevelRuns(good, 1)[0]), impl.LevelBase(good)}, []int{80, 80, 80, 80, 1})
	check := func(runes []int, base int) {
		levels, classes := impl.LevelsTold(runes, base)
		same(t, "nothing", []int{len(levels), len(classes), len(impl.LevelRuns(runes, base)), len(impl.LevelsOf(runes, base))}, []int{0, 0, 0, 0})
	}
	for _, bad := range badLetters() {
		check(bad, 0)
		check(bad, 1)
		same(t, "side", impl.LevelBase(append([]int{1488}, bad...)), 0)
	}
	for _, base := range []int{-1, 2, 3, impl.BaseAuto, -1 << 63, 1<<63 - 1} {
		check([]int{'a'}, base)
		check(nil, base)
	}
	check(nil, 0)
}

// P9: What only tells how others are read is not seen, all else has a level.
func TestWhatOnlyTellsIsNotSeen(t *testing.T) {
	someTexts(1000, func(runes []int) {
		for base := range 2 {
			levels, classes := impl.LevelsTold(runes, base)
			if len(levels) != len(runes) || len(classes) != len(runes) {
				t.Fatalf("%v: %v %v", runes, levels, classes)
			}
			come := false
			for at, r := range runes {
				class := impl.RuneBidi(r)
				tells := class == impl.BidiBN || class >= impl.BidiLRE && class <= impl.BidiRLO
				if tells != (levels[at] == -1) || tells != (classes[at] == 0) || levels[at] > impl.LevelMax || !tells && levels[at] < base {
					t.Fatalf("%v at %d: level %d, class %d", runes, at, levels[at], classes[at])
				}
				if !tells && classes[at] != class && (!come || classes[at] != 2-(levels[at]+1)%2) {
					t.Fatalf("%v at %d: class %d on %d", runes, at, classes[at], levels[at])
				}
				come = come || class >= impl.BidiLRE
				if !come && !tells && levels[at] != base {
					t.Fatalf("%v at %d: level %d with nothing told", runes, at, levels[at])
				}
			}
		}
	})
}

// P11: The side of a text is that of its first letter with one.
func TestSideOfAText(t *testing.T) {
	for _, c := range []struct {
		runes []int
		want  int
	}{
		{nil, 0},
		{[]int{'a'}, 0}, {[]int{20000, 1488}, 0}, {[]int{1488}, 1}, {[]int{1570, 'a'}, 1},
		{[]int{'1', 1632, '!', ' ', 768, 9, 10}, 0},
		{[]int{'1', 1632, '!', ' ', 768, 9, 10, 173, 1488, 'a'}, 1},
		{[]int{rle, lro, 1488}, 1}, {[]int{rle, 'a'}, 0},
		{[]int{rli, 1488}, 0}, {[]int{rli, 1488, pdi}, 0}, {[]int{rli, 'a', pdi, 1488}, 1},
		{[]int{lri, lri, 'a', pdi, 'a', pdi, 1488}, 1},
		{[]int{lri, lri, 'a', pdi, 1488}, 0},
		{[]int{lri, pdi, pdi, 1488}, 1}, {[]int{pdi, 1488}, 1},
	} {
		same(t, "side", impl.LevelBase(c.runes), c.want)
	}
	someTexts(500, func(runes []int) {
		short := runes[:min(len(runes), 60)]
		plain := impl.LevelBase(short)
		for _, opening := range []int{lri, rli, fsi} {
			for _, within := range []int{'a', 1488, 1570, '1'} {
				same(t, "alone ahead", impl.LevelBase(joined([]int{opening, within, pdi}, short)), plain)
			}
		}
		same(t, "left ahead", impl.LevelBase(joined([]int{'1', 'a'}, short)), 0)
		same(t, "right ahead", impl.LevelBase(joined([]int{'1', 1488}, short)), 1)
	})
}

func TestWhatIsReadTogether(t *testing.T) {
	for _, c := range []struct {
		runes []int
		base  int
		want  [][]int
	}{
		{nil, 0, nil},
		{[]int{'a', 'b'}, 1, [][]int{{0, 1}}},
		{[]int{rle, pdf, 173}, 0, nil},
		{[]int{'a', rle, 'b', pdf, 'c'}, 0, [][]int{{0}, {2}, {4}}},
		{[]int{'a', rle, pdf, 173, 'c'}, 0, [][]int{{0, 4}}},
		{[]int{rle, 'a', pdf, rle, 'b'}, 0, [][]int{{1, 4}}},
		{[]int{'a', rli, 'b', pdi, 'c', rli, 'd', pdi, 'e'}, 0, [][]int{{0, 1, 3, 4, 5, 7, 8}, {2}, {6}}},
		{[]int{'a', rli, 'b', lri, 'c', pdi, 'd', pdi, 'e'}, 0, [][]int{{0, 1, 7, 8}, {2, 3, 5, 6}, {4}}},
		{[]int{'a', rli, 'b', pdi, rli, 'c', pdi, 'd'}, 0, [][]int{{0, 1, 3, 4, 6, 7}, {2}, {5}}},
		{[]int{lri, pdi}, 0, [][]int{{0, 1}}},
		{[]int{lri, 173, pdi}, 0, [][]int{{0, 2}}},
		{[]int{'a', rli, 'b'}, 0, [][]int{{0, 1}, {2}}},
		{[]int{rle, 'a', pdf, pdi, 'b'}, 0, [][]int{{1}, {3, 4}}},
		{[]int{'a', rli, rle, 'b', pdf, 'c', pdi, 'd'}, 0, [][]int{{0, 1, 6, 7}, {3}, {5}}},
		{[]int{rli, 'a', pdi, rle, 'b', pdf, 'c'}, 0, [][]int{{0, 2}, {1}, {4}, {6}}},
	} {
		same(t, "read together", impl.LevelRuns(c.runes, c.base), c.want)
	}
	top := upAndUp(impl.LevelMax)
	same(t, "beyond the highest level", impl.LevelRuns(joined(top, []int{'a', rli, 'b', pdi, 'c'}), 0), "[[20 21 22 23 24]]")
}

// P10: Each letter that is seen is read together with others just once.
func TestEachLetterIsReadTogetherOnce(t *testing.T) {
	someTexts(1000, func(runes []int) {
		for base := range 2 {
			levels := toldLevels(runes, base)
			times := make([]int, len(runes))
			runs := impl.LevelRuns(runes, base)
			for _, run := range runs {
				if len(run) == 0 || !slices.IsSorted(run) {
					t.Fatalf("%v: %v", runes, runs)
				}
				for _, at := range run {
					times[at]++
					if levels[at] != levels[run[0]] {
						t.Fatalf("%v: %v of more than one level", runes, run)
					}
				}
			}
			for at, level := range levels {
				if times[at] != min(1, level+1) {
					t.Fatalf("%v: %d is there %d times", runes, at, times[at])
				}
			}
			if !slices.IsSortedFunc(runs, func(a []int, b []int) int { return a[0] - b[0] }) {
				t.Fatalf("%v: %v is not in order", runes, runs)
			}
		}
	})
}
