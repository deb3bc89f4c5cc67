package tests

import (
	"slices"
	"testing"

	"loop.example/colophon/impl"
)

func turned(list []int) []int {
	list = slices.Clone(list)
	slices.Reverse(list)
	return list
}

func raised(levels []int, by int) []int {
	list := slices.Clone(levels)
	for i := range list {
		if list[i] >= 0 {
			list[i] += by
		}
	}
	return list
}

// arranged is how places whose levels are all at least so high are seen, told from the inside out.
func arranged(levels []int, places []int, level int) []int {
	var parts [][]int
	for from := 0; from < len(places); from++ {
		to := from
		for to < len(places) && levels[places[to]] > level {
			to++
		}
		if to == from {
			parts = append(parts, places[from:from+1])
			continue
		}
		parts = append(parts, arranged(levels, places[from:to], level+1))
		from = to - 1
	}
	if level%2 == 1 {
		slices.Reverse(parts)
	}
	return joined(parts...)
}

func seenPlaces(levels []int) []int {
	places := []int{}
	for at, level := range levels {
		if level >= 0 {
			places = append(places, at)
		}
	}
	return places
}

func TestOrders(t *testing.T) {
	for _, c := range []struct {
		levels, order, back []int
	}{
		{nil, nil, nil},
		{[]int{0, 0}, []int{0, 1}, []int{0, 1}},
		{[]int{1, 1}, []int{1, 0}, []int{1, 0}},
		{[]int{2, 2}, []int{0, 1}, []int{0, 1}},
		{[]int{22, 22, 21}, []int{2, 0, 1}, []int{1, 2, 0}},
		{[]int{-1, -1}, nil, []int{-1, -1}},
		{[]int{1, -1, 1}, []int{2, 0}, []int{1, -1, 0}},
		{[]int{-1, 0, 1, -1, 2, 2, -1, 1, 0}, []int{1, 7, 4, 5, 2, 8}, []int{-1, 0, 4, -1, 2, 3, -1, 1, 5}},
		{[]int{1, 0, 1, 1}, []int{0, 1, 3, 2}, []int{0, 1, 3, 2}},
		{[]int{3, 1, 2}, []int{2, 1, 0}, []int{2, 1, 0}},
		{[]int{0, 3, 3, 0, 2, 3, 2}, []int{0, 2, 1, 3, 4, 5, 6}, []int{0, 2, 1, 3, 4, 5, 6}},
	} {
		same(t, "order", impl.OrderOf(c.levels), c.order)
		same(t, "back", impl.OrderBack(c.levels), c.back)
	}
	someLevels(2000, func(levels []int) {
		same(t, "order", impl.OrderOf(levels), arranged(levels, seenPlaces(levels), 0))
	})
}

// P15: Each letter that has a level is seen just once.
func TestEachPlaceIsSeenOnce(t *testing.T) {
	someLevels(1000, func(levels []int) {
		order, back := impl.OrderOf(levels), impl.OrderBack(levels)
		sorted := slices.Sorted(slices.Values(order))
		same(t, "places", sorted, seenPlaces(levels))
		if len(back) != len(levels) {
			t.Fatalf("%v: %v", levels, back)
		}
		for at, level := range levels {
			if level < 0 && back[at] != -1 || level >= 0 && (back[at] < 0 || order[back[at]] != at) {
				t.Fatalf("%v: %v %v", levels, order, back)
			}
		}
	})
}

// P16: Neighbours on one level stand side by side, on even levels as they are written, on odd ones the other way round.
func TestNeighboursStaySideBySide(t *testing.T) {
	someLevels(1000, func(levels []int) {
		back := impl.OrderBack(levels)
		for at := 1; at < len(levels); at++ {
			if levels[at] < 0 || levels[at] != levels[at-1] {
				continue
			}
			if want := back[at-1] + 1 - 2*(levels[at]%2); back[at] != want {
				t.Fatalf("%v: %v at %d", levels, back, at)
			}
		}
	})
}

// P17: Two levels more for all change nothing that is seen, and one more turns it all round.
func TestLevelsMoreForAll(t *testing.T) {
	someLevels(1000, func(levels []int) {
		low := slices.Clone(levels)
		for i := range low {
			low[i] = min(low[i], impl.LevelMax)
		}
		order := impl.OrderOf(low)
		same(t, "two more", impl.OrderOf(raised(low, 2)), order)
		same(t, "one more", impl.OrderOf(raised(low, 1)), turned(order))
	})
}

func TestRuns(t *testing.T) {
	for _, c := range []struct {
		levels []int
		want   string
	}{
		{nil, "[]"},
		{[]int{0}, "[{0 1 0}]"},
		{[]int{-1}, "[{0 1 -1}]"},
		{[]int{-1, -1, -1}, "[{0 3 -1}]"},
		{[]int{-1, 0, -1}, "[{0 3 0}]"},
		{[]int{-1, -1, 2, 1}, "[{0 3 2} {3 4 1}]"},
		{[]int{0, -1, 0}, "[{0 3 0}]"},
		{[]int{0, -1, -1, 1, -1}, "[{0 3 0} {3 5 1}]"},
		{[]int{22, 0, 22}, "[{0 1 22} {1 2 0} {2 3 22}]"},
	} {
		same(t, "runs", impl.RunsOf(c.levels), c.want)
	}
}

// P18: Runs are all levels, one behind the other, no two neighbours alike.
func TestRunsAreAllLevels(t *testing.T) {
	someLevels(1000, func(levels []int) {
		end, last := 0, -2
		for _, run := range impl.RunsOf(levels) {
			if run.From != end || run.To <= run.From || run.Level == last {
				t.Fatalf("%v: %v", levels, impl.RunsOf(levels))
			}
			end, last = run.To, run.Level
			if run.From > 0 && levels[run.From] != run.Level {
				t.Fatalf("%v: %v begins too early", levels, run)
			}
			for _, level := range levels[run.From:run.To] {
				if level >= 0 && level != run.Level {
					t.Fatalf("%v: %v", levels, run)
				}
			}
			if run.Level < 0 && len(seenPlaces(levels)) > 0 {
				t.Fatalf("%v: %v", levels, run)
			}
		}
		same(t, "end", end, len(levels))
	})
}

func TestOrdersRefuseWhatIsNotOk(t *testing.T) {
	full := repeated(impl.LevelMax+2, impl.TextMax)
	same(t, "as many as may be", []int{len(impl.OrderOf(full)), len(impl.OrderBack(full)), len(impl.RunsOf(full))}, []int{80, 80, 1})
	for _, bad := range [][]int{{-2}, {0, impl.LevelMax + 3}, {1 << 40, 0}, {-1 << 63}, repeated(0, impl.TextMax+1), repeated(-1, impl.TextMax+1)} {
		same(t, "bad levels", []int{len(impl.OrderOf(bad)), len(impl.OrderBack(bad)), len(impl.RunsOf(bad))}, []int{0, 0, 0})
	}
}

// emptyAt says by the document's words whether a letter of a line goes with all of it.
func emptyAt(runes []int, levels []int, at int, to int) bool {
	if runes[at] == 10 || impl.RuneBidi(runes[at]) == cS {
		return true
	}
	for ; at < to; at++ {
		class := impl.RuneBidi(runes[at])
		switch {
		case levels[at] == -1 || class == cWS || class >= cLRI:
		default:
			return runes[at] == 10 || class == cS
		}
	}
	return true
}

func TestLineLevelsByWords(t *testing.T) {
	d := dice(5)
	someTexts(1500, func(runes []int) {
		from := d.below(len(runes) + 1)
		to := from + d.below(len(runes)-from+1)
		for base := range 2 {
			levels := impl.LevelsOf(runes, base)
			var want []int
			for at := from; at < to; at++ {
				level := levels[at]
				if level >= 0 && emptyAt(runes, levels, at, to) {
					level = base
				}
				want = append(want, level)
			}
			same(t, "line", impl.LineLevels(runes, base, from, to), want)
		}
	})
}

func TestLineLevels(t *testing.T) {
	for _, c := range []struct {
		text           string
		base, from, to int
		want           []int
	}{
		{"\u05d0 \u05d1", 0, 0, 3, []int{1, 1, 1}},
		{"\u05d0 \u05d1", 0, 0, 2, []int{1, 0}},
		{"\u05d0 \u05d1", 0, 1, 2, []int{0}},
		{"\u05d0 \u05d1", 0, 1, 1, nil},
		{"\u05d0 \u05d1", 0, 3, 3, nil},
		{"", 0, 0, 0, nil},
		{"\u05d0  \t \u05d1", 0, 0, 6, []int{1, 0, 0, 0, 1, 1}},
		{"\u05d0 \n\u05d1", 0, 0, 4, []int{1, 0, 0, 1}},
		{"a \tb", 1, 0, 4, []int{2, 1, 1, 2}},
		{"\u05d0 \u202c\u00ad ", 0, 0, 5, []int{1, 0, -1, -1, 0}},
		{"\u05d0 \u202c\u00ad\t", 0, 0, 5, []int{1, 0, -1, -1, 0}},
		{"\u05d0 \u2067\u2069\u2068\u2066\u2069\u2069\u2069", 0, 0, 9, []int{1, 0, 0, 0, 0, 0, 0, 0, 0}},
		{"\u05d0!\u05d1", 0, 0, 2, []int{1, 1}},
		{"\u202b\u05d0 \u202ca", 0, 0, 5, []int{-1, 1, 1, -1, 0}},
		{"\u202b\u05d0 \u202ca", 0, 0, 4, []int{-1, 1, 0, -1}},
		{"\u05d0\r\n\u05d1", 0, 0, 4, []int{1, 1, 0, 1}},
		{"\u202e a\tb \u202c ", 0, 0, 8, []int{-1, 1, 1, 0, 1, 0, -1, 0}},
		{"\u202e \u202c\u2067\u05d0", 0, 0, 4, []int{-1, 0, -1, 0}},
	} {
		same(t, c.text, impl.LineLevels(runesOf(c.text), c.base, c.from, c.to), c.want)
	}
}

// P19: What stands empty at the end of a line goes with all of it.
func TestWhatIsEmptyGoesWithTheLine(t *testing.T) {
	someTexts(800, func(runes []int) {
		runes = append(runes[:min(len(runes), 79)], ' ')
		for base := range 2 {
			all := impl.LevelsOf(runes, base)
			line := impl.LineLevels(runes, base, 0, len(runes))
			same(t, "how many", len(line), len(runes))
			same(t, "last blank", line[len(line)-1], base)
			for at, level := range line {
				if level != all[at] && (level != base || impl.RuneBidi(runes[at]) < cBN && runes[at] != 10) {
					t.Fatalf("%v: %v, all %v", runes, line, all)
				}
			}
		}
	})
}

// P20: What is seen of a line are its letters, each once, some as in a mirror.
func TestWhatIsSeenOfALine(t *testing.T) {
	d := dice(6)
	someTexts(800, func(runes []int) {
		from := d.below(len(runes) + 1)
		to := from + d.below(len(runes)-from+1)
		for base := range 2 {
			levels := impl.LineLevels(runes, base, from, to)
			back := impl.OrderBack(levels)
			seen := impl.SeenOf(runes, base, from, to)
			same(t, "how many", len(seen), len(seenPlaces(levels)))
			for at, level := range levels {
				if level < 0 {
					continue
				}
				want := runes[from+at]
				if level%2 == 1 {
					want = impl.RuneMirror(want)
				}
				same(t, "seen", seen[back[at]], want)
			}
		}
	})
	for _, c := range []struct {
		text string
		base int
		want string
	}{
		{"a\u05d0\u05d1b", 0, "a\u05d1\u05d0b"},
		{"a\u05d0\u05d1b", 1, "b\u05d1\u05d0a"},
		{"\u05d0 (1) <\u05d1>", 1, "<\u05d1> (1) \u05d0"},
		{"\u05d0\u202a(a)\u202c[", 1, "](a)\u05d0"},
		{"ab \u05d0 ", 1, " \u05d0 ab"},
		{"ab \u05d0 ", 0, "ab \u05d0 "},
	} {
		runes := runesOf(c.text)
		same(t, c.text, impl.SeenOf(runes, c.base, 0, len(runes)), runesOf(c.want))
	}
}

func TestLinesThatAreNotThere(t *testing.T) {
	runes := repeated(1488, impl.TextMax)
	same(t, "all", []int{len(impl.LineLevels(runes, 0, 0, 80)), len(impl.SeenOf(runes, 1, 0, 80))}, []int{80, 80})
	check := func(runes []int, base int, from int, to int) {
		t.Helper()
		same(t, "nothing", []int{len(impl.LineLevels(runes, base, from, to)), len(impl.SeenOf(runes, base, from, to))}, []int{0, 0})
	}
	for _, line := range [][2]int{{-1, 2}, {2, 1}, {0, 81}, {80, 81}, {81, 81}, {-2, -1}, {-1 << 63, 1<<63 - 1}, {1<<63 - 1, -1 << 63}, {80, 80}, {0, 0}} {
		check(runes, 0, line[0], line[1])
	}
	for _, base := range []int{-1, 2, 1 << 40} {
		check(runes, base, 0, 80)
	}
	for _, bad := range badLetters() {
		check(bad, 0, 0, len(bad))
		check(bad, 0, 0, 0)
	}
	check(nil, 0, 0, 0)
	check(nil, 0, 0, 1)
}
