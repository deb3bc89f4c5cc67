package tests

import (
	"fmt"
	"slices"
	"strings"
	"testing"

	"loop.example/colophon/impl"
)

// inWords says of each letter whether it is of a word: its cluster's first letter tells.
func inWords(runes []int) []bool {
	within := make([]bool, len(runes))
	for _, start := range impl.ClusterStarts(runes) {
		within[start] = slices.Contains([]int{cL, cR, cAL, cEN, cAN}, impl.RuneBidi(runes[start]))
	}
	for at := range runes {
		within[at] = within[impl.ClusterAt(runes, at)]
	}
	return within
}

// stretchOf is from where to where all are as the one at a place is, looked for on both sides.
func stretchOf(within []bool, at int) (int, int) {
	from, to := at, at+1
	for from > 0 && within[from-1] == within[at] {
		from--
	}
	for to < len(within) && within[to] == within[at] {
		to++
	}
	return from, to
}

type wordCase struct {
	text   string
	starts []int
	count  int
}

func wordCases() []wordCase {
	return []wordCase{
		{"", nil, 0}, {"a", []int{0}, 1}, {" ", []int{0}, 0}, {"ab", []int{0}, 1}, {"a b", []int{0, 1, 2}, 2}, {" a ", []int{0, 1, 2}, 1}, {"a  ,  b", []int{0, 1, 6}, 2},
		{strings.Repeat(" ", 80), []int{0}, 0}, {strings.Repeat("a", 80), []int{0}, 1}, {strings.Repeat("a ", 40), upTo(80), 40}, {strings.Repeat(" \u05d0", 40), upTo(80), 40},
		// All classes of words, side by side, are one; what is read from the other side is no other word.
		{"a\u05d0\u06211\u0661\u4e00", []int{0}, 1}, {"a1", []int{0}, 1}, {"1", []int{0}, 1}, {"\u0661", []int{0}, 1}, {"\u4e00\u4e01", []int{0}, 1},
		// Figures with signs between them, and signs, are not.
		{"1,2", []int{0, 1, 2}, 2}, {"a-b", []int{0, 1, 2}, 2}, {"$1", []int{0, 1}, 1}, {"(a)[b]", []int{0, 1, 2, 4, 5}, 2}, {"a\nb\n", []int{0, 1, 2, 3}, 2}, {"a\tb", []int{0, 1, 2}, 2}, {"a\u2026", []int{0, 1}, 1}, {"\u05e9!", []int{0, 1}, 1},
		// What joins goes with the first letter of its cluster.
		{"a\u0301b", []int{0}, 1}, {"\u0301a", []int{0, 1}, 1}, {" \u0301a", []int{0, 2}, 1}, {"a \u0301\u0301b", []int{0, 1, 4}, 2}, {"a\u200db", []int{0}, 1}, {"a\u200d b", []int{0, 2, 3}, 2}, {"-\u200da", []int{0, 2}, 1}, {"\r\na", []int{0, 2}, 1}, {"\n\u0301a", []int{0, 2}, 1}, {"\U0001f1e6\U0001f1e7a", []int{0, 2}, 1},
		// Such as only tell, and are not seen, are no words, but stand between them.
		{"a\u200bb", []int{0, 1, 2}, 2}, {"a\u00adb", []int{0, 1, 2}, 2}, {"\u2067\u05d0\u2069", []int{0, 1, 2}, 1}, {"\u202ba\u202c", []int{0, 1, 2}, 1}, {"a\u202c\u0301b", []int{0, 1, 3}, 2},
	}
}

// upTo is all numbers below a number.
func upTo(count int) []int {
	list := make([]int, count)
	for i := range list {
		list[i] = i
	}
	return list
}

func TestWhereWordsBegin(t *testing.T) {
	for _, c := range wordCases() {
		what := fmt.Sprintf("%+q", c.text)
		runes := runesOf(c.text)
		same(t, what, impl.WordStarts(runes), c.starts)
		same(t, what, impl.WordCount(runes), c.count)
		for i, from := range c.starts {
			to := len(runes)
			if i+1 < len(c.starts) {
				to = c.starts[i+1]
			}
			for at := from; at < to; at++ {
				checkWord(t, what, runes, at, from, to)
			}
		}
	}
}

func checkWord(t *testing.T, what string, runes []int, at int, from int, to int) {
	t.Helper()
	gotFrom, gotTo := impl.WordAt(runes, at)
	same(t, fmt.Sprint(what, " at ", at), []int{gotFrom, gotTo}, []int{from, to})
}

func TestNoWords(t *testing.T) {
	for _, runes := range badLetters() {
		same(t, "starts", impl.WordStarts(runes), "[]")
		same(t, "count", impl.WordCount(runes), 0)
		for _, at := range []int{least, -1, 0, 1, len(runes) - 1, len(runes), most} {
			checkWord(t, "not ok", runes, at, 0, 0)
		}
	}
	for _, runes := range [][]int{nil, {}, runesOf("a"), runesOf("ab  "), runesOf("  ab"), repeated('a', impl.TextMax)} {
		for _, at := range []int{least, -2, -1, len(runes), len(runes) + 1, impl.TextMax, most} {
			checkWord(t, "no such letter", runes, at, 0, 0)
		}
	}
}

// P55: Each letter is in a word, or between words, just once.
// P56: A word is a word whichever of its letters is asked.
func TestEachLetterIsInAWordOnce(t *testing.T) {
	someTexts(1500, func(runes []int) {
		starts, words, within := []int{}, 0, inWords(runes)
		for at := range runes {
			from, to := stretchOf(within, at)
			checkWord(t, "some", runes, at, from, to)
			checkWord(t, "its first", runes, from, from, to)
			checkWord(t, "its last", runes, to-1, from, to)
			if from == at {
				starts = append(starts, at)
				if within[at] {
					words++
				}
			}
		}
		same(t, "starts", impl.WordStarts(runes), starts)
		same(t, "count", impl.WordCount(runes), words)
	})
}

// P57: Words are counted, whatever stands between them.
func TestWordsAreCounted(t *testing.T) {
	someTexts(1500, func(runes []int) {
		runes = runes[:min(len(runes), impl.TextMax-4)]
		count := impl.WordCount(runes)
		same(t, "with a blank and letters", impl.WordCount(joined(runes, runesOf(" a\u05d0b"))), count+1)
		same(t, "with blanks", impl.WordCount(joined(runes, runesOf("    "))), count)
	})
}
