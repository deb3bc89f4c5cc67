// Package impl: paragraphs that are read from both sides: levels, order, breaks, lines, and what stands where.
package impl

import (
	"iter"
	"strings"
	"unicode/utf8"
)

// TextMax bounds letters of a text.
const TextMax = 80

// Classes of letters by the side from which they are read.
const (
	BidiL   = 1
	BidiR   = 2
	BidiAL  = 3
	BidiEN  = 4
	BidiES  = 5
	BidiET  = 6
	BidiAN  = 7
	BidiCS  = 8
	BidiNSM = 9
	BidiBN  = 10
	BidiS   = 11
	BidiWS  = 12
	BidiON  = 13
	BidiLRE = 14
	BidiRLE = 15
	BidiPDF = 16
	BidiLRO = 17
	BidiRLO = 18
	BidiLRI = 19
	BidiRLI = 20
	BidiFSI = 21
	BidiPDI = 22
)

// The borders of what a letter is: the last one, and those between that are none.
const (
	letterLast = 1114111
	noneFirst  = 55296
	noneLast   = 57343
)

// Letters that rules of several chapters name.
const (
	runeNewline = 10
	runeReturn  = 13
	runeBlank   = 32
	hanFirst    = 19968
	hanLast     = 40959
)

// Utf8Get is the letters of a text; false if it is none.
func Utf8Get(text string) ([]int, bool) {
	var letters []int
	for letter, ok := range lettersOf(text) {
		if !ok || len(letters) == TextMax {
			return nil, false
		}
		letters = append(letters, letter)
	}
	return letters, true
}

// lettersOf tells the letters of a text, and of each whether its bytes are one.
func lettersOf(text string) iter.Seq2[int, bool] {
	return func(yield func(int, bool) bool) {
		for rest := text; len(rest) > 0; {
			letter, size := utf8.DecodeRuneInString(rest)
			// The letter 65533 itself has three bytes; one byte alone means that there was none.
			if !yield(int(letter), letter != utf8.RuneError || size > 1) {
				return
			}
			rest = rest[size:]
		}
	}
}

// Utf8Put writes letters.
func Utf8Put(runes []int) string {
	if !lettersOk(runes) {
		return ""
	}
	var text strings.Builder
	for _, r := range runes {
		text.WriteRune(rune(r))
	}
	return text.String()
}

func lettersOk(runes []int) bool {
	if len(runes) > TextMax {
		return false
	}
	for _, r := range runes {
		if r < 0 || r > letterLast || r >= noneFirst && r <= noneLast {
			return false
		}
	}
	return true
}

type classRange struct {
	first int
	last  int
	class int
}

// RuneBidi is the class of a letter.
func RuneBidi(r int) int {
	ranges := [...]classRange{
		{9, 9, BidiS},
		{runeBlank, runeBlank, BidiWS},
		{'#', '%', BidiET},
		{'+', '+', BidiES},
		{',', ',', BidiCS},
		{'-', '-', BidiES},
		{'.', '/', BidiCS},
		{'0', '9', BidiEN},
		{':', ':', BidiCS},
		{'A', 'Z', BidiL},
		{'a', 'z', BidiL},
		{173, 173, BidiBN},
		{768, 879, BidiNSM},
		{1488, 1514, BidiR},
		{1569, 1610, BidiAL},
		{1632, 1641, BidiAN},
		{8203, 8203, BidiBN},
		{8205, 8205, BidiBN},
		{8234, 8234, BidiLRE},
		{8235, 8235, BidiRLE},
		{8236, 8236, BidiPDF},
		{8237, 8237, BidiLRO},
		{8238, 8238, BidiRLO},
		{8294, 8294, BidiLRI},
		{8295, 8295, BidiRLI},
		{8296, 8296, BidiFSI},
		{8297, 8297, BidiPDI},
		{hanFirst, hanLast, BidiL},
	}
	at := firstNotAhead(ranges[:], r)
	if at == len(ranges) || r < ranges[at].first {
		return BidiON
	}
	return ranges[at].class
}

// firstNotAhead is the first range that does not end ahead of r; the ranges ascend, so half of what is left goes each time.
func firstNotAhead(ranges []classRange, r int) int {
	low, high := 0, len(ranges)
	for low < high {
		middle := (low + high) / 2
		if ranges[middle].last < r {
			low = middle + 1
		} else {
			high = middle
		}
	}
	return low
}

// RuneWide is how wide a letter is.
func RuneWide(r int) int {
	class := RuneBidi(r)
	if class == BidiNSM || class == BidiBN || class >= BidiLRE || r == runeNewline || r == runeReturn {
		return 0
	}
	switch r {
	case 'i', 'j', 'l', 'f', 't':
		return 6
	case 'm', 'w':
		return 16
	}
	if r >= hanFirst && r <= hanLast {
		return 20
	}
	switch class {
	case BidiR, BidiAL:
		return 12
	case BidiS:
		return 40
	case BidiWS, BidiCS:
		return 6
	}
	return 10
}

// RuneMirror is the letter that looks like a letter in a mirror.
func RuneMirror(r int) int {
	if mate := RuneMate(r); mate != 0 {
		return mate
	}
	switch r {
	case '<':
		return '>'
	case '>':
		return '<'
	}
	return r
}

// RuneMate is the bracket that ends, or begins, what a bracket begins or ends; 0 if it is none.
func RuneMate(r int) int {
	switch r {
	case '(':
		return ')'
	case ')':
		return '('
	case '[':
		return ']'
	case ']':
		return '['
	case '{':
		return '}'
	case '}':
		return '{'
	}
	return 0
}
