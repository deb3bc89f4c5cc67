package tests

import (
	"fmt"
	"regexp"
	"runtime"
	"slices"
	"strconv"
	"strings"
	"testing"
	"time"

	"loop.example/colophon/impl"
)

const exampleAsked = `text the red אבג (12) of áb, end
show
wide 900
show
ways 1 1 3
show
hit 0 300
caret 8
mark 4 12
style 0 3 20 1
show
put 3 x
cut 0 4
show
hit 9 9
put 99 y
what`

const exampleTold = `ok
0 to 4, 260 wide: 0@0 1@60 2@160 3@260
4 to 8, 300 wide: 4@0 5@100 6@200 7@300
8 to 12, 360 wide: 10@0 9@120 8@240 11@360
12 to 17, 400 wide: 15@0 13@100 14@200 12@300 16@400
17 to 20, 160 wide: 17@0 18@100 19@160
20 to 25, 260 wide: 20@0 22@100 23@200 24@260
25 to 28, 300 wide: 25@0 26@100 27@200
ok
0 to 8, 620 wide: 0@0 1@60 2@160 3@260 4@320 5@420 6@520 7@620
8 to 17, 820 wide: 15@0 13@100 14@200 12@300 11@400 10@460 9@580 8@700 16@820
17 to 28, 840 wide: 17@0 18@100 19@160 20@220 22@320 23@420 24@480 25@540 26@640 27@740
ok
0 to 8, 900 wide: 7@-60 0@0 1@60 2@160 3@260 4@600 5@700 6@800
8 to 17, 900 wide: 16@-60 15@0 13@100 14@200 12@300 11@400 10@540 9@660 8@780
17 to 28, 840 wide: 17@60 18@160 19@220 20@280 22@380 23@480 24@540 25@600 26@700 27@800
at 3
line 1 at 900
marked 0:-60+60 0:600+300 1:400+500
ok
0 to 8, 900 wide: 7@-60 0@0 1@120 2@320 3@520 4@600 5@700 6@800
8 to 17, 900 wide: 16@-60 15@0 13@100 14@200 12@300 11@400 10@540 9@660 8@780
17 to 28, 840 wide: 17@60 18@160 19@220 20@280 22@380 23@480 24@540 25@600 26@700 27@800
ok
ok
0 to 9, 900 wide: 8@-60 7@0 6@120 5@240 4@360 1@480 2@580 3@680 0@780
9 to 17, 900 wide: 16@-60 14@0 15@100 13@160 12@500 10@600 11@700 9@800
17 to 25, 620 wide: 17@280 19@380 20@480 21@540 22@600 23@700 24@800
nothing
no
what
`

func exampleLinesAsked() []string {
	return strings.Split(strings.ReplaceAll(exampleAsked, "\u00e1", "a\u0301"), "\n")
}

func TestTheExample(t *testing.T) {
	same(t, "the example", impl.Session(exampleLinesAsked()), exampleTold)
}

// P54: A session tells just what its lines do.
func TestSessionsTell(t *testing.T) {
	for i, c := range []struct {
		lines []string
		want  string
	}{
		// At first there is a paragraph without a text.
		{nil, ""}, {[]string{}, ""}, {[]string{"show"}, ""}, {[]string{"show", "show"}, ""}, {[]string{"hit 0 0"}, "nothing\n"}, {[]string{"caret 0"}, "nothing\n"}, {[]string{"mark 0 9"}, "marked\n"}, {[]string{"cut 0 0"}, "ok\n"}, {[]string{"cut 0 1"}, "no\n"}, {[]string{"style 0 1 5 1"}, "no\n"}, {[]string{"put 0 abcde", "show"}, "ok\n0 to 4, 400 wide: 0@0 1@100 2@200 3@300\n4 to 5, 100 wide: 4@0\n"},
		{[]string{"text \u05d0a", "show"}, "ok\n0 to 2, 220 wide: 1@180 0@280\n"}, {[]string{"text a"}, "ok\n"}, {[]string{"what"}, "what\n"}, {[]string{""}, "what\n"}, {[]string{"", "text a", ""}, "what\nok\nwhat\n"},
		// A text may be any: empty, with blanks ahead and behind, over several lines, with bytes that are no letters, too long.
		{[]string{"text ", "show", "put 0 b", "show"}, "ok\nok\n0 to 1, 100 wide: 0@0\n"}, {[]string{"text a", "text ", "show"}, "ok\nok\n"}, {[]string{"text  a ", "show"}, "ok\n0 to 3, 160 wide: 0@0 1@60 2@160\n"}, {[]string{"text a\nb", "show"}, "ok\n0 to 2, 100 wide: 0@0 1@100\n2 to 3, 100 wide: 2@0\n"}, {[]string{"text text a", "caret 5"}, "ok\nline 1 at 0\n"},
		{[]string{"text \x80", "show", "hit 0 0", "caret 0", "mark 0 1", "put 0 a", "cut 0 0", "style 0 1 5 1", "text a", "show"}, "ok\nwrong 1\nnothing\nnothing\nmarked\nno\nno\nno\nok\n0 to 1, 100 wide: 0@0\n"}, {[]string{"text " + strings.Repeat("a", 81), "show"}, "ok\nwrong 1\n"},
		{[]string{"text", "show"}, "what\n"}, {[]string{"text a", "text", "show"}, "ok\nwhat\n0 to 1, 100 wide: 0@0\n"}, {[]string{"texta"}, "what\n"}, {[]string{" text a"}, "what\n"}, {[]string{"Text a"}, "what\n"}, {[]string{"text\ta"}, "what\n"}, {[]string{"tex a"}, "what\n"},
		// A text comes without spans, and leaves all else.
		{[]string{"text ab", "style 0 2 20 1", "show", "text ab", "show"}, "ok\nok\n0 to 2, 400 wide: 0@0 1@200\nok\n0 to 2, 200 wide: 0@0 1@100\n"}, {[]string{"wide 100", "ways 1 0 1", "text ab", "show"}, "ok\nok\nok\n0 to 1, 100 wide: 0@0\n1 to 2, 100 wide: 1@0\n"}, {[]string{"text ab", "style 0 2 20 1", "text a", "show"}, "ok\nok\nok\n0 to 1, 100 wide: 0@0\n"},
		// Widths and ways may be any numbers.
		{[]string{"wide 0", "text ab", "show"}, "ok\nok\n0 to 1, 100 wide: 0@0\n1 to 2, 100 wide: 1@0\n"}, {[]string{"wide 20000", "show", "wide 20001", "show", "wide 99999", "show", "put 0 a"}, "ok\nok\nwrong 3\nok\nwrong 3\nno\n"}, {[]string{"ways 3 0 0", "show", "ways 2 1 3", "show", "ways 0 2 0", "show", "ways 0 0 4", "show", "ways 99999 99999 99999", "wide 20001", "show"}, "ok\nwrong 4\nok\nok\nwrong 4\nok\nwrong 4\nok\nok\nwrong 3\n"},
		{[]string{"text a b cd", "ways 0 1 3", "show"}, "ok\nok\n0 to 4, 400 wide: 0@0 1@100 2@300 3@400\n4 to 6, 200 wide: 4@0 5@100\n"}, {[]string{"text ab", "ways 0 0 1", "show", "ways 1 0 1", "show"}, "ok\nok\n0 to 2, 200 wide: 0@200 1@300\nok\n0 to 2, 200 wide: 0@0 1@100\n"},
		// What does not go leaves the paragraph as it was.
		{[]string{"text ab", "put 3 x", "cut 1 0", "cut 0 3", "style 0 3 5 1", "style 0 1 41 1", "style 1 1 5 1", "style 0 1 5 10", "show"}, "ok\nno\nno\nno\nno\nno\nno\nno\n0 to 2, 200 wide: 0@0 1@100\n"}, {[]string{"text ab", "put 1 \x80", "put 1 " + strings.Repeat("a", 79), "show"}, "ok\nno\nno\n0 to 2, 200 wide: 0@0 1@100\n"}, {[]string{"text ab", "put 1 " + strings.Repeat("\u0301", 78), "show"}, "ok\nok\n0 to 80, 200 wide: 0@0 79@100\n"},
		// What is put in may be empty, and may have blanks and numbers.
		{[]string{"text ab", "put 1 ", "show"}, "ok\nok\n0 to 2, 200 wide: 0@0 1@100\n"}, {[]string{"text ab", "put 1  ", "show"}, "ok\nok\n0 to 3, 260 wide: 0@0 1@100 2@160\n"}, {[]string{"text ab", "put 2 1 2", "show"}, "ok\nok\n0 to 4, 300 wide: 0@0 1@100 2@200 3@300\n4 to 5, 100 wide: 4@0\n"}, {[]string{"put 0 ", "put 1 ", "show"}, "ok\nno\n"},
		{[]string{"put 0 x", "put 0", "put", "put ", "put x", "put 0  y", "mark 0 9"}, "ok\nwhat\nwhat\nwhat\nwhat\nok\nmarked 0:0+260\n"},
		{[]string{"text ab", "put x y", "put -1 y", "put +1 y", "put 01 y", "put 00 y", "put 000001 y", "put 123456 y", "put  1 y", "put  y", "put 1x y", "put 1.0 y", "put \u0661 y", "put 0x1 y", "put 1\t y", "show"}, "ok\n" + strings.Repeat("no\n", 14) + "0 to 2, 200 wide: 0@0 1@100\n"},
		// Hits, carets and marks.
		{[]string{"text ab \u05d0", "hit 0 0", "hit 0 49", "hit 0 50", "hit 0 99999", "hit 0 40000", "hit 0 40001", "hit 1 0", "hit 0 260", "hit 0 379", "hit 99999 0"}, "ok\nat 0\nat 0\nbehind 0\nnothing\nat 3\nnothing\nnothing\nbehind 3\nat 3\nnothing\n"}, {[]string{"text abcdeg", "hit 1 0", "hit 1 199", "caret 4", "caret 5", "caret 6", "caret 99999"}, "ok\nat 4\nbehind 5\nline 1 at 0\nline 1 at 100\nnothing\nnothing\n"}, {[]string{"text a\u0301", "caret 1", "mark 1 2", "mark 0 2"}, "ok\nnothing\nmarked\nmarked 0:0+100\n"},
		{[]string{"text abcdeg", "mark 0 6", "mark 3 5", "mark 5 3", "mark 2 2", "mark 0 99999"}, "ok\nmarked 0:0+400 1:0+200\nmarked 0:300+100 1:0+100\nmarked\nmarked\nmarked 0:0+400 1:0+200\n"}, {[]string{"text a ", "ways 1 0 1", "caret 0", "caret 1", "mark 0 2"}, "ok\nok\nline 0 at 0\nline 0 at 0\nmarked 0:-60+160\n"},
	} {
		same(t, fmt.Sprint("case ", i), impl.Session(c.lines), c.want)
	}
}

// Each kind of line with words too many, too few and not as asked.
func TestSessionsAskWhat(t *testing.T) {
	kinds := []struct {
		word  string
		count int
	}{{"wide", 1}, {"ways", 3}, {"cut", 2}, {"style", 4}, {"show", 0}, {"hit", 2}, {"caret", 1}, {"mark", 2}}
	wrong := []string{"01", "00", "000000", "123456", "100000", "-1", "-0", "+1", "", "x", "1x", "x1", "1.0", "1,", "0x1", "\u0661", "1\n", "\t1", "\x80", "1_0", "1e2"}
	var lines []string
	for _, k := range kinds {
		lines = append(lines, " "+k.word+strings.Repeat(" 1", k.count), k.word+strings.Repeat(" 1", k.count)+" ", strings.ToUpper(k.word)+strings.Repeat(" 1", k.count), k.word+"x"+strings.Repeat(" 1", k.count), k.word[1:]+strings.Repeat(" 1", k.count))
		for count := range 7 {
			if count != k.count {
				lines = append(lines, k.word+strings.Repeat(" 1", count))
			}
		}
		for place := range k.count {
			for _, w := range wrong {
				words := slices.Repeat([]string{"1"}, k.count)
				words[place] = w
				lines = append(lines, k.word+" "+strings.Join(words, " "))
			}
			lines = append(lines, k.word+strings.Repeat(" 1", place)+" "+strings.Repeat(" 1", k.count-place))
		}
	}
	for _, line := range lines {
		told := impl.Session([]string{"text a b cd", line, "show"})
		same(t, fmt.Sprintf("%q", line), told, "ok\nwhat\n0 to 4, 260 wide: 0@0 1@100 2@160 3@260\n4 to 6, 200 wide: 4@0 5@100\n")
	}
}

func TestSessionsOfManyLines(t *testing.T) {
	same(t, "60 lines", impl.Session(slices.Repeat([]string{"what"}, 60)), strings.Repeat("what\n", 60))
	same(t, "61 lines", impl.Session(slices.Repeat([]string{"what"}, 61)), strings.Repeat("what\n", 60))
	same(t, "many lines", impl.Session(slices.Repeat([]string{"text a"}, 5000)), strings.Repeat("ok\n", 60))
	lines := append(slices.Repeat([]string{"text a"}, 59), "show", "show")
	same(t, "the last one that is done", impl.Session(lines), strings.Repeat("ok\n", 59)+"0 to 1, 100 wide: 0@0\n")
	same(t, "lines that tell nothing", impl.Session(append(slices.Repeat([]string{"show"}, 60), "text a")), "")
	same(t, "the last line", impl.Session(append(slices.Repeat([]string{"show"}, 59), "text a")), "ok\n")
}

// lineKinds is what lines of a session look like; N is a number.
const lineKinds = `\A(?:(text) ((?s:.*))|(put) ([^ ]*) ((?s:.*))|(wide|caret) (N)|(cut|hit|mark) (N) (N)|(ways) (N) (N) (N)|(style) (N) (N) (N) (N)|(show))\z`

const lineNumber = `(0|[1-9][0-9]{0,4})`

// sessionOf is a session told another way, a line at a time.
func sessionOf(lines []string) string {
	number := regexp.MustCompile(`\A` + lineNumber + `\z`)
	kinds := regexp.MustCompile(strings.ReplaceAll(lineKinds, "(N)", lineNumber))
	p := impl.Para{Wide: 400, Base: 2}
	told := ""
	for i, line := range lines {
		if i == 60 {
			break
		}
		found := kinds.FindStringSubmatch(line)
		if found == nil {
			told += "what\n"
			continue
		}
		first := 1 + slices.IndexFunc(found[1:], func(s string) bool { return s != "" })
		words := found[first:]
		var n [5]int
		for j := 1; j < min(len(words), 5); j++ {
			n[j], _ = strconv.Atoi(words[j])
		}
		next, ok := p, true
		switch words[0] {
		case "text":
			next.Text, next.Spans = words[1], nil
		case "wide":
			next.Wide = n[1]
		case "ways":
			next.Base, next.Mode, next.Align = n[1], n[2], n[3]
		case "put":
			next, ok = impl.ParaPut(p, n[1], words[2])
			ok = ok && number.MatchString(words[1])
		case "cut":
			next, ok = impl.ParaCut(p, n[1], n[2])
		case "style":
			next, ok = impl.ParaStyle(p, span(n[1], n[2], n[3], n[4]))
		default:
			told += askedOf(p, words[0], n)
			continue
		}
		if ok {
			p = next
			told += "ok\n"
		} else {
			told += "no\n"
		}
	}
	return told
}

func askedOf(p impl.Para, word string, n [5]int) string {
	switch word {
	case "show":
		return impl.ParaShow(p)
	case "hit":
		if at, behind, ok := impl.ParaHit(p, n[1], n[2]); ok && behind {
			return fmt.Sprintln("behind", at)
		} else if ok {
			return fmt.Sprintln("at", at)
		}
		return "nothing\n"
	case "caret":
		if line, x, ok := impl.ParaCaret(p, n[1]); ok {
			return fmt.Sprintln("line", line, "at", x)
		}
		return "nothing\n"
	}
	told := "marked"
	for _, r := range impl.ParaRects(p, n[1], n[2]) {
		told += fmt.Sprintf(" %d:%d+%d", r.Line, r.X, r.Wide)
	}
	return told + "\n"
}

// someSession is lines of all kinds, most of them as asked.
func someSession(d *dice) []string {
	kinds := []string{"text T", "put N T", "cut N N", "style N N N M", "wide W", "wide W", "ways M M M", "show", "show", "hit M W", "caret N", "mark N N", "put T T", "text", "T", "show N", "cut N"}
	var lines []string
	for range d.below(70) {
		words := strings.Split(kinds[d.below(len(kinds))], " ")
		for i, w := range words {
			switch w {
			case "T":
				words[i] = textOf(fillable(d))
			case "N":
				words[i] = strconv.Itoa(d.below(25))
			case "M":
				words[i] = strconv.Itoa(d.below(4))
			case "W":
				words[i] = strconv.Itoa(d.below([]int{400, 2000, 42000}[d.below(3)]))
			}
			if d.below(60) == 0 {
				words[i] += []string{" ", "0", "\x80", "x", " 7", "-"}[d.below(6)]
			}
			if d.below(60) == 0 {
				words[i] = []string{" ", "0", "-", "00", ""}[d.below(5)] + words[i]
			}
		}
		lines = append(lines, strings.Join(words, " "))
	}
	return lines
}

func TestSessionsByWords(t *testing.T) {
	d := dice(9)
	counts := map[string]int{}
	for range 1500 {
		lines := someSession(&d)
		told := impl.Session(lines)
		if want := sessionOf(lines); told != want {
			t.Fatalf("%q: got %q, want %q", lines, told, want)
		}
		for _, line := range strings.Split(told, "\n") {
			word, _, _ := strings.Cut(line, " ")
			counts[word]++
		}
	}
	for _, word := range []string{"ok", "no", "nothing", "what", "at", "behind", "line", "marked", "wrong"} {
		if counts[word] < 100 {
			t.Errorf("%s was told %d times, too few to tell", word, counts[word])
		}
	}
}

// Whoever tells a session's lines is done when the session is.
func TestSessionsLeaveNobodyBehind(t *testing.T) {
	before := runtime.NumGoroutine()
	for range 200 {
		impl.Session(exampleLinesAsked())
		impl.Session(nil)
	}
	for wait := 0; runtime.NumGoroutine() > before; wait++ {
		if wait == 500 {
			t.Fatalf("%d were left behind", runtime.NumGoroutine()-before)
		}
		time.Sleep(time.Millisecond)
	}
}

func TestSessionsSideBySide(t *testing.T) {
	told := make(chan string)
	for range 20 {
		go func() { told <- impl.Session(exampleLinesAsked()) }()
	}
	for range 20 {
		same(t, "side by side", <-told, exampleTold)
	}
}
