package tests

import (
	"fmt"
	"testing"

	"loop.example/colophon/impl"
)

// runesOf is the letters of a text that is known to be one, told without the program.
func runesOf(text string) []int {
	var runes []int
	for _, r := range text {
		runes = append(runes, int(r))
	}
	return runes
}

// same holds what was told against what was asked for, as both are written.
func same(t *testing.T, what string, got any, want any) {
	t.Helper()
	if fmt.Sprint(got) != fmt.Sprint(want) {
		t.Errorf("%s: got %v, want %v", what, got, want)
	}
}

func repeated(r int, n int) []int {
	list := make([]int, n)
	for i := range list {
		list[i] = r
	}
	return list
}

func joined(lists ...[]int) []int {
	all := []int{}
	for _, list := range lists {
		all = append(all, list...)
	}
	return all
}

// Letters that tell how others are read.
const (
	lre = 8234
	rle = 8235
	pdf = 8236
	lro = 8237
	rlo = 8238
	lri = 8294
	rli = 8295
	fsi = 8296
	pdi = 8297
)

// sampleLetters has each class, each bracket, and all that a rule names.
func sampleLetters() []int {
	return []int{
		'a', 'Z', 20000, 1488, 1514, 1569, 1610, '0', '9', 1632, 1641, '+', '-', '#', '$', '%', ',', '.', '/', ':',
		768, 879, 8203, 8205, 173, 9, ' ', '!', 10, 13, 127462, 127487, '(', ')', '[', ']', '{', '}', '<', '>',
		160, '?', '"', ';', lre, rle, pdf, lro, rlo, lri, rli, fsi, pdi, 65533, 1114111, 0,
	}
}

// dice are always thrown in the same way, so that a test that fails fails again.
type dice uint64

func (d *dice) below(n int) int {
	*d = *d*6364136223846793005 + 1442695040888963407
	return int(uint64(*d)>>33) % n
}

// someTexts hands on letters of many mixtures: of all kinds, and of a few that come again and again.
func someTexts(count int, each func(runes []int)) {
	all := sampleLetters()
	d := dice(1)
	for range count {
		few := 1 + d.below(9)
		kinds := make([]int, few)
		for i := range kinds {
			kinds[i] = all[d.below(len(all))]
		}
		runes := make([]int, d.below(impl.TextMax+1))
		for i := range runes {
			runes[i] = kinds[d.below(few)]
			if d.below(8) == 0 {
				runes[i] = all[d.below(len(all))]
			}
		}
		each(runes)
	}
}

// someClasses hands on classes of 1..22, likewise.
func someClasses(count int, each func(classes []int, d *dice)) {
	d := dice(2)
	for range count {
		few := 1 + d.below(6)
		kinds := make([]int, few)
		for i := range kinds {
			kinds[i] = 1 + d.below(22)
		}
		classes := make([]int, d.below(impl.TextMax+1))
		for i := range classes {
			classes[i] = kinds[d.below(few)]
			if d.below(5) == 0 {
				classes[i] = 1 + d.below(22)
			}
		}
		each(classes, &d)
	}
}

// someLevels hands on levels that are ok, neighbours often alike.
func someLevels(count int, each func(levels []int)) {
	d := dice(3)
	for range count {
		top := 1 + d.below(impl.LevelMax+3)
		levels := make([]int, d.below(impl.TextMax+1))
		for i := range levels {
			levels[i] = d.below(top+1) - 1
			if i > 0 && d.below(2) == 0 {
				levels[i] = levels[i-1]
			}
		}
		each(levels)
	}
}

// badLetters is lists of which no letter list is ok.
func badLetters() [][]int {
	return [][]int{{-1}, {'a', 55296}, {56000}, {57343, 'a'}, {1114112}, repeated('a', impl.TextMax+1), repeated(1488, 5000), {-1 << 63}, {1<<63 - 1}}
}
