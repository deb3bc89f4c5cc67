package tests

import (
	"fmt"
	"slices"
	"strings"
	"testing"

	"loop.example/colophon/impl"
)

type runs = []impl.Run

func run(from int, to int, level int) impl.Run {
	return impl.Run{From: from, To: to, Level: level}
}

func TestNumbersOfScripts(t *testing.T) {
	same(t, "numbers", []int{impl.ScriptNone, impl.ScriptLatin, impl.ScriptHebrew, impl.ScriptArabic, impl.ScriptHan}, "[0 1 2 3 4]")
}

// scriptOf is the script of a letter by the document's numbers.
func scriptOf(r int) int {
	rows := [][3]int{{97, 122, 1}, {65, 90, 1}, {1488, 1514, 2}, {1569, 1610, 3}, {1632, 1641, 3}, {19968, 40959, 4}}
	for _, row := range rows {
		if r >= row[0] && r <= row[1] {
			return row[2]
		}
	}
	return 0
}

func TestScriptsOfLetters(t *testing.T) {
	for r := -70000; r < 70000; r++ {
		if got := impl.RuneScript(r); got != scriptOf(r) {
			t.Fatalf("%d: %d", r, got)
		}
	}
	for _, r := range []int{least, 127462, 1114111, 1114112, most} {
		same(t, fmt.Sprint(r), impl.RuneScript(r), 0)
	}
}

type scriptCase struct {
	text string
	want []int
}

func checkScripts(t *testing.T, cases []scriptCase) {
	t.Helper()
	for _, c := range cases {
		same(t, fmt.Sprintf("%+q", c.text), impl.ScriptsOf(runesOf(c.text)), c.want)
	}
}

// P62: A letter of a script stays of it, and what is of any goes with others.
func TestLettersOfNoScriptGoWithOthers(t *testing.T) {
	checkScripts(t, []scriptCase{
		{"", nil}, {"a", []int{1}}, {"\u05d0", []int{2}}, {"\u0621", []int{3}}, {"\u0661", []int{3}}, {"\u4e00", []int{4}}, {"aB\u05d0\u0661\u4e00z", []int{1, 1, 2, 3, 4, 1}},
		// Of no script alone, and ahead of the first script.
		{"1", []int{0}}, {" ,.1\n\u0301", []int{0, 0, 0, 0, 0, 0}}, {"()", []int{0, 0}}, {"1 )(", []int{0, 0, 0, 0}}, {"1 \u05d0", []int{2, 2, 2}}, {"1 a \u05d0 1", []int{1, 1, 1, 1, 2, 2, 2}}, {"\u0301\u4e00", []int{4, 4}}, {"1)(\u0621a", []int{3, 3, 3, 3, 1}}, {"a1\u05d02\u06613\u4e004", []int{1, 1, 2, 2, 3, 3, 4, 4}}, {"\u05d0\u0301a\u0301", []int{2, 2, 1, 1}},
		{strings.Repeat(" ", 79) + "\u05d0", repeated(2, 80)}, {"\u05d0" + strings.Repeat(" ", 79), repeated(2, 80)}, {strings.Repeat("!", 80), repeated(0, 80)},
	})
}

// P63: What a bracket closes is of the script in which it was opened.
func TestBracketsKeepTheirScript(t *testing.T) {
	checkScripts(t, []scriptCase{
		{"a(\u05d0)1", []int{1, 1, 2, 1, 1}}, {"a[\u05d0]1", []int{1, 1, 2, 1, 1}}, {"a{\u05d0}1", []int{1, 1, 2, 1, 1}}, {"\u05d0(a)1", []int{2, 2, 1, 2, 2}}, {"(\u05d0)", []int{2, 2, 2}}, {"(a\u05d0)", []int{1, 1, 2, 1}}, {"a()\u05d0", []int{1, 1, 1, 2}},
		// Within each other.
		{"a(\u05d0(\u4e00)1)2", []int{1, 1, 2, 2, 4, 2, 2, 1, 1}}, {"a(\u05d0[\u4e00]1)2", []int{1, 1, 2, 2, 4, 2, 2, 1, 1}}, {"a((\u05d0))", []int{1, 1, 1, 2, 1, 1}}, {"a(\u05d0(\u4e00)", []int{1, 1, 2, 2, 4, 2}},
		// Closed without having been opened, also if opened by another kind, or once more than opened.
		{"a\u05d0)1", []int{1, 2, 2, 2}}, {")a", []int{1, 1}}, {"a(\u05d0]1", []int{1, 1, 2, 2, 2}}, {"a(\u05d0)\u4e00)1", []int{1, 1, 2, 1, 4, 4, 4}}, {"a)\u05d0(", []int{1, 1, 2, 2}},
		// Opened and never closed.
		{"a(\u05d0", []int{1, 1, 2}}, {"a(\u05d0[{1", []int{1, 1, 2, 2, 2, 2}},
		// Of two kinds that cross: what is closed ahead takes those opened within it with it.
		{"a(\u05d0[\u4e00)1]2", []int{1, 1, 2, 2, 4, 1, 1, 1, 1}}, {"a[\u05d0(\u4e00]\u0621)2", []int{1, 1, 2, 2, 4, 1, 3, 3, 3}}, {"a{\u05d0(\u4e00[\u0621)1}2]3", []int{1, 1, 2, 2, 4, 4, 3, 2, 2, 1, 1, 1, 1}},
		// The last that was opened is meant, then the one ahead of it.
		{"a(\u05d0(\u4e00)\u0621)", []int{1, 1, 2, 2, 4, 2, 3, 1}}, {"\u05d0(\u4e00)a(\u0621)", []int{2, 2, 4, 2, 1, 1, 3, 1}},
		// What only looks like brackets is none.
		{"a<\u05d0>1", []int{1, 1, 2, 2, 2}},
	})
}

// scriptsOf is the scripts of letters told again: a bracket that closes takes what was told of the one that it closes.
func scriptsOf(runes []int) []int {
	scripts, last := make([]int, len(runes)), 0
	for at := len(runes) - 1; at >= 0; at-- {
		if s := scriptOf(runes[at]); s != 0 {
			last = s
		}
	}
	open := []int{}
	for at, r := range runes {
		kind := strings.IndexRune("([{)]}", rune(r))
		if s := scriptOf(r); s != 0 {
			last = s
		} else if kind >= 0 && kind < 3 {
			open = append(open, at)
		} else if kind >= 3 {
			for i, other := range slices.Backward(open) {
				if runes[other] == int("([{"[kind-3]) {
					last, open = scripts[other], open[:i]
					break
				}
			}
		}
		scripts[at] = last
	}
	return scripts
}

func checkSomeScripts(t *testing.T, runes []int) {
	t.Helper()
	want := scriptsOf(runes)
	same(t, fmt.Sprint(runes), impl.ScriptsOf(runes), want)
	var list runs
	for at, script := range want {
		if at == 0 || want[at-1] != script {
			list = append(list, run(at, at, script))
		}
		list[len(list)-1].To = at + 1
	}
	same(t, fmt.Sprint(runes), impl.ScriptRuns(runes), list)
}

func TestSomeScripts(t *testing.T) {
	someTexts(2000, func(runes []int) { checkSomeScripts(t, runes) })
	kinds := []int{'a', 1488, '1', '(', ')', '[', ']'}
	for number := range 7 * 7 * 7 * 7 * 7 * 7 {
		var runes []int
		for ; number > 0; number /= len(kinds) {
			runes = append(runes, kinds[number%len(kinds)])
		}
		checkSomeScripts(t, runes)
	}
	d := dice(11)
	few := []int{'a', 1488, 1569, 19968, '1', ' ', '(', ')', '[', ']', '{', '}'}
	for range 2000 {
		runes := make([]int, d.below(impl.TextMax+1))
		for i := range runes {
			runes[i] = few[d.below(len(few))]
		}
		checkSomeScripts(t, runes)
	}
}

func TestNoScripts(t *testing.T) {
	for _, runes := range append(badLetters(), nil, []int{}) {
		same(t, "scripts", impl.ScriptsOf(runes), "[]")
		same(t, "runs", impl.ScriptRuns(runes), "[]")
	}
}

func TestRunsOfScripts(t *testing.T) {
	for _, c := range []struct {
		text string
		want runs
	}{
		{"a(\u05d0)1", runs{run(0, 2, 1), run(2, 3, 2), run(3, 5, 1)}}, {"1 2", runs{run(0, 3, 0)}}, {"1\u4e00", runs{run(0, 2, 4)}}, {"a\u05d0\u0621\u4e00", runs{run(0, 1, 1), run(1, 2, 2), run(2, 3, 3), run(3, 4, 4)}}, {strings.Repeat("a", 80), runs{run(0, 80, 1)}},
	} {
		same(t, fmt.Sprintf("%+q", c.text), impl.ScriptRuns(runesOf(c.text)), c.want)
	}
}

// P64: Runs that are cut are the same letters, in the same order.
func TestRunsAreCut(t *testing.T) {
	one, ones := runs{run(0, 5, 7)}, runs{run(0, 1, 1), run(1, 2, 2), run(2, 3, 3), run(3, 4, 4), run(4, 5, 5)}
	two := runs{run(0, 3, 1), run(3, 5, 2)}
	long, single := runs{run(0, impl.TextMax, -4)}, make(runs, impl.TextMax)
	for at := range single {
		single[at] = run(at, at+1, 9)
	}
	for i, c := range []struct {
		a, b, want runs
	}{
		{two, runs{run(0, 1, 0), run(1, 5, 0)}, runs{run(0, 1, 1), run(1, 3, 1), run(3, 5, 2)}}, {two, runs{run(0, 4, 8), run(4, 5, 9)}, runs{run(0, 3, 1), run(3, 4, 2), run(4, 5, 2)}}, {two, two, two}, {one, one, one}, {one, two, runs{run(0, 3, 7), run(3, 5, 7)}}, {two, one, two}, {ones, one, ones}, {ones, two, ones},
		{one, ones, runs{run(0, 1, 7), run(1, 2, 7), run(2, 3, 7), run(3, 4, 7), run(4, 5, 7)}}, {two, ones, runs{run(0, 1, 1), run(1, 2, 1), run(2, 3, 1), run(3, 4, 2), run(4, 5, 2)}}, {runs{run(0, 1, 3)}, runs{run(0, 1, 4)}, runs{run(0, 1, 3)}},
		// Neighbours that are alike stay two, and a level is whatever it is.
		{runs{run(0, 2, 1), run(2, 5, 1)}, one, runs{run(0, 2, 1), run(2, 5, 1)}}, {runs{run(0, 5, least)}, runs{run(0, 2, most), run(2, 5, most)}, runs{run(0, 2, least), run(2, 5, least)}}, {runs{run(0, 5, most)}, one, runs{run(0, 5, most)}},
		// Up to the most letters.
		{long, long, long}, {single, long, single}, {long, runs{run(0, 79, 0), run(79, 80, 0)}, runs{run(0, 79, -4), run(79, 80, -4)}},
	} {
		same(t, fmt.Sprint("case ", i), impl.RunsCut(c.a, c.b), c.want)
	}
	same(t, "each letter", len(impl.RunsCut(long, single)), impl.TextMax)
}

// brokenRuns is lists that are not runs from 0 on, one behind the other; most of them end at 5.
func brokenRuns() []runs {
	return []runs{
		nil, {}, {run(1, 5, 1)}, {run(-1, 5, 1)}, {run(1, 3, 1), run(3, 5, 1)}, {run(0, 2, 1), run(3, 5, 1)}, {run(0, 3, 1), run(2, 5, 1)}, {run(0, 0, 1), run(0, 5, 1)}, {run(0, 5, 1), run(5, 5, 1)}, {run(0, 2, 1), run(2, 2, 1), run(2, 5, 1)}, {run(0, 0, 1)}, {run(5, 0, 1)}, {run(0, 3, 1), run(3, 2, 1), run(2, 5, 1)}, {run(0, 2, 1), run(0, 5, 1)}, {run(2, 5, 1), run(0, 2, 1)},
		{run(0, impl.TextMax+1, 1)}, {run(0, impl.TextMax, 1), run(impl.TextMax, impl.TextMax+1, 1)}, {run(0, most, 1)}, {run(0, 5, 1), run(5, most, 1)}, {run(least, 5, 1)}, {run(0, least, 1)}, {run(least, least, 1)}, {run(least, most, 1)},
	}
}

// otherRuns is runs that end elsewhere than at 5.
func otherRuns() []runs {
	return []runs{{run(0, 4, 1)}, {run(0, 6, 1)}, {run(0, 3, 1), run(3, 6, 1)}, {run(0, 5, 1), run(5, 6, 1)}, {run(0, impl.TextMax, 1)}}
}

func TestWrongRunsAreNotCut(t *testing.T) {
	for i, wrong := range append(brokenRuns(), otherRuns()...) {
		for _, right := range []runs{{run(0, 5, 1)}, {run(0, 2, 1), run(2, 5, 0)}} {
			same(t, fmt.Sprint("first ", i), impl.RunsCut(wrong, right), "[]")
			same(t, fmt.Sprint("second ", i), impl.RunsCut(right, wrong), "[]")
		}
	}
	for i, wrong := range brokenRuns() {
		same(t, fmt.Sprint("both ", i), impl.RunsCut(wrong, wrong), "[]")
	}
	past := runs{run(0, impl.TextMax, 1), run(impl.TextMax, impl.TextMax+1, 2)}
	same(t, "past the end", impl.RunsCut(runs{run(0, impl.TextMax+1, 1)}, past), "[]")
}

// someRuns is runs up to an end.
func someRuns(end int, d *dice) runs {
	var list runs
	for from := 0; from < end; {
		to := from + 1 + d.below(min(end-from, 1+d.below(20)))
		list = append(list, run(from, to, d.below(3)-1))
		from = to
	}
	return list
}

func TestSomeRunsAreCut(t *testing.T) {
	d := dice(12)
	for range 3000 {
		end := 1 + d.below(impl.TextMax)
		a, b := someRuns(end, &d), someRuns(end, &d)
		ends := func(list runs, to int) bool {
			return slices.ContainsFunc(list, func(r impl.Run) bool { return r.To == to })
		}
		var want runs
		from := 0
		for to := 1; to <= end; to++ {
			if ends(a, to) || ends(b, to) {
				at := slices.IndexFunc(a, func(r impl.Run) bool { return r.To >= to })
				want = append(want, run(from, to, a[at].Level))
				from = to
			}
		}
		same(t, "cut", impl.RunsCut(a, b), want)
		same(t, "the other way round", len(impl.RunsCut(b, a)), len(want))
	}
}
