package tests

import (
	"fmt"
	"slices"
	"strings"
	"testing"

	"loop.example/colophon/impl"
)

type levelRow struct {
	text string
	base int
	want string
}

func checkLevels(t *testing.T, rows []levelRow) {
	t.Helper()
	for _, row := range rows {
		got := strings.Trim(fmt.Sprint(impl.LevelsOf(runesOf(row.text), row.base)), "[]")
		if got != row.want {
			t.Errorf("%q on %d: got %s, want %s", row.text, row.base, got, row.want)
		}
	}
}

func TestLevelsOfFigures(t *testing.T) {
	checkLevels(t, []levelRow{
		{"", 0, ""}, {"a", 0, "0"}, {"a", 1, "2"}, {"\u05d0", 0, "1"}, {"\u05d0", 1, "1"},
		{"1", 0, "0"}, {"1", 1, "2"}, {"\u0661", 0, "2"}, {"\u0661", 1, "2"},
		{"\u05d012\u05d1", 0, "1 2 2 1"}, {"\u05d0 1,2 \u05d1", 0, "1 1 2 2 2 1 1"}, {"\u05d0 1, 2 \u05d1", 0, "1 1 2 1 1 2 1 1"},
		{"\u06271-2\u0628", 0, "1 2 1 2 1"}, {"\u05d01-2\u05d1", 0, "1 2 2 2 1"},
		{"\u05d0%1%\u05d1", 1, "1 2 2 2 1"}, {"\u0627%1%\u0628", 1, "1 1 2 1 1"},
		{"\u05d0a1\u05d1", 1, "1 2 2 1"}, {"\u05d0 a 1", 1, "1 1 2 2 2"}, {"1 \u05d0 2", 0, "0 0 1 1 2"}, {"1 \u05d0 2", 1, "2 1 1 1 2"},
		{"\u05d0e\u0301\u05d1\u0301", 0, "1 0 0 1 1"}, {"\u0301a", 1, "1 2"}, {"\u0301\u05d0", 0, "0 1"},
	})
}

func TestLevelsOfBrackets(t *testing.T) {
	checkLevels(t, []levelRow{
		{"\u05d0(a)\u05d1", 0, "1 0 0 0 1"},
		{"\u05d0(\u05d1)a", 0, "1 1 1 1 0"},
		{"a(\u05d1)\u05d0", 0, "0 0 1 0 1"},
		{"(\u05d1)\u05d0", 0, "0 1 0 1"},
		{"a(\u05d1)\u05d0", 1, "2 1 1 1 1"},
		{"a(b)\u05d0", 1, "2 2 2 2 1"},
		{"\u05d0(b)c", 1, "1 1 2 1 2"},
		{"a(b\u05d0)c", 1, "2 1 2 1 1 2"},
		{"a( )\u05d0", 0, "0 0 0 0 1"},
		{"\u05d0(1)a", 0, "1 1 2 1 0"},
		{"\u05d0(\u0661)a", 0, "1 1 2 1 0"},
		{"1(\u05d0)a", 1, "2 1 1 1 2"},
		{"\u05d01(a)b", 1, "1 2 1 2 1 2"},
		{"\u05d0(a[\u05d1]", 0, "1 0 0 0 1 0"},
		{"\u05d0(\u05d1[\u05d2]a)", 0, "1 0 1 1 1 1 0 0"},
		{"a(\u0301\u05d0)\u0301\u05d1", 0, "0 0 0 1 0 0 1"},
		{"\u05d0(\u0301\u05d1)\u0301a", 0, "1 1 1 1 1 1 0"},
		{"\u05d0(\u05d1)\u0301\u0301a", 0, "1 1 1 1 1 1 0"},
		{"\u05d0(\u0301!)\u0301a", 0, "1 0 0 0 0 0 0"},
		{"\u05d0(\u05d1!\u0301)!\u0301a", 0, "1 1 1 1 1 1 0 0 0"},
		{"a(\u2067b\u2069\u05d0)\u05d1", 0, "0 0 0 2 0 1 0 1"},
		{"a(\u2067)\u2069\u05d0)\u05d1", 0, "0 0 0 1 0 1 0 1"},
		{"\u202ba(b)\u202c\u202e\u0301", 0, "-1 2 2 2 2 -1 -1 1"},
	})
}

func TestLevelsBesideOtherLevels(t *testing.T) {
	checkLevels(t, []levelRow{
		{"a\u202b!\u202cb", 0, "0 -1 1 -1 0"},
		{"\u202b\u05d0\u00ad\u202c1", 0, "-1 1 -1 -1 2"},
		{"\u05d0!\u202b\u00ad\u05d1", 0, "1 1 -1 -1 1"},
		{"\u202b\u202aa\u202c\u202cb\u202b\u0301", 0, "-1 -1 2 -1 -1 0 -1 1"},
		{"\u202b\u0301\u202cb\u202b\u202aa", 0, "-1 1 -1 0 -1 -1 2"},
		{"\u202b!\u202c!", 0, "-1 1 -1 0"},
		{"\u202b1\u202c", 0, "-1 2 -1"},
		{"!\u202aa\u202c!", 1, "1 -1 2 -1 1"},
		{"\u05d0!\u202ba\u202c!\u05d1", 0, "1 1 -1 2 -1 1 1"},
		{"1\u202b\u05d0\u202c1", 0, "0 -1 1 -1 2"},
		{"\u05d0!\u2067", 0, "1 0 0"},
		{"\u05d0!\u2067a", 0, "1 0 0 2"},
		{"a!\u2066", 1, "2 1 1"},
		{"\u05d0!\u2067a\u2069!\u05d0", 0, "1 1 1 2 1 1 1"},
		{"\u05d0\u20661\u2069\u05d0", 0, "1 1 2 1 1"},
		{"a\u2068\u05d0!\u2069b", 0, "0 0 1 1 0 0"},
		{"a\u2068b!\u2069c", 1, "2 2 2 2 2 2"},
		{"\u202d\u05d01\u202c\u05d0", 0, "-1 2 2 -1 1"},
		{"\u202ea1\u202ca", 0, "-1 1 1 -1 0"},
		{"\u202e\u2066\u05d0\u2069(a)\u202c", 0, "-1 1 3 1 1 1 1 -1"},
		{"\u00ad\u200b\u200d", 1, "-1 -1 -1"},
		{"\u05d0\u00ad1\u00ad,\u00ad2", 0, "1 -1 2 -1 2 -1 2"},
	})
	top := upAndUp(impl.LevelMax)
	same(t, "on the highest level", impl.LevelsOf(joined(top, []int{'a', 1488, '1', 1632}), 0)[20:], []int{20, 21, 22, 22})
	same(t, "on the next to highest", impl.LevelsOf(joined(top[:19], []int{'a', 1488, '1', 1632}), 0)[19:], []int{20, 19, 20, 20})
}

// P7: What is read from the left alone stays on the level 0.
func TestTheLeftAloneStays(t *testing.T) {
	someTexts(1000, func(mixed []int) {
		var runes []int
		for _, r := range mixed {
			if class := impl.RuneBidi(r); class != cR && class != cAL && class != cAN && class != cBN && class < cLRE {
				runes = append(runes, r)
			}
		}
		same(t, "levels", impl.LevelsOf(runes, 0), make([]int, len(runes)))
		same(t, "seen", impl.SeenOf(runes, 0, 0, len(runes)), runes)
		same(t, "seen", impl.SeenOf(runes, 0, len(runes)/3, len(runes)/2), runes[len(runes)/3:len(runes)/2])
	})
	all := runesOf("The red (12) [ox], 3% of <all> 4+5: {e\u0301}!\t\r\n")
	same(t, "seen", impl.SeenOf(all, 0, 0, len(all)), all)
}

// P8: What is read from a side stands on a level of that side.
func TestLevelsAreOfTheirSide(t *testing.T) {
	someTexts(1500, func(runes []int) {
		free := !slices.Contains(runes, lro) && !slices.Contains(runes, rlo)
		for base := range 2 {
			told, levels := toldLevels(runes, base), impl.LevelsOf(runes, base)
			if len(levels) != len(runes) {
				t.Fatalf("%v: %v", runes, levels)
			}
			for at, level := range levels {
				if told[at] == -1 && level != -1 || told[at] >= 0 && (level < told[at] || level > told[at]+2 || level < base) {
					t.Fatalf("%v: %v, told %v", runes, levels, told)
				}
				class := impl.RuneBidi(runes[at])
				if free && (class == cL || class == cEN || class == cAN) && level%2 != 0 || free && (class == cR || class == cAL) && level%2 != 1 {
					t.Fatalf("%v at %d: class %d on %d", runes, at, class, level)
				}
			}
		}
	})
}

// Texts of many mixtures; a telling of the same rules that was written apart from this one has these levels too.
func TestLevelsOfMixtures(t *testing.T) {
	checkLevels(t, []levelRow{
		{"a\u05d1\u05d1\u05d0[\u05d0\u05d0\u05d0([ba", 0, "0 1 1 1 1 1 1 1 0 0 0 0"},
		{"][\u05d01[ 11a", 0, "0 0 1 2 1 1 2 2 0"},
		{" 2\u06601\u0660\u0661. \u0627\u05d01-\u0627.%", 0, "0 0 2 0 2 2 1 1 1 1 2 1 1 0 0"},
		{"\u05d0%2%,\u05d0.\u05d0", 0, "1 2 2 2 1 1 1 1"},
		{"! \u202b1 !\u202b \u202ea", 0, "0 0 -1 2 1 1 -1 3 -1 5"},
		{")!\u05d0(\u20661\u2069\u05d0)))a\u0301\u2067", 0, "0 0 1 1 1 2 1 1 1 0 0 0 0 0"},
		{"\u2068\u202c\u202a\u20691\u202b(\u202c\u2067 )\u2069\u202a,", 0, "0 -1 -1 0 0 -1 1 -1 0 1 1 0 -1 2"},
		{"(\u05d0\u05d1a\u05d1a \u05d0]\u05d1 (\u05d1", 1, "1 1 1 2 1 2 1 1 1 1 1 1 1"},
		{"()[\u05d0aaa\u0301)", 1, "1 1 1 1 2 2 2 2 1"},
		{"\u0627\u0661\u0661 %2\u0661\u0661 \u06612--\u0661,", 1, "1 2 2 1 1 2 2 2 1 2 2 1 1 2 1"},
		{"!1 %\u05d0,.+, \u05d0%", 1, "1 2 1 1 1 1 1 1 1 1 1 1"},
		{"\u202b\u202ca\u202d!\u202d\u202c\u202c!\u202ea1\u05d0", 1, "-1 -1 2 -1 2 -1 -1 -1 1 -1 3 3 3"},
		{"\u2069\u2068\u2068\u2066 \u2068\u05d01\u2069", 1, "1 1 2 4 6 6 7 8 6"},
		{"\u00ad1\u202c\u202ba\u0301 (1\u2068\u2069\u2069\u2069\u05d0", 1, "-1 2 -1 -1 4 4 4 4 4 3 3 3 3 3"},
		{" ])][b\u05d1\u05d1\u05d1 )[)", 0, "0 0 0 0 0 0 1 1 1 0 0 0 0"},
		{"a\u05d0]] )aaaa(aa[)", 0, "0 1 0 0 0 0 0 0 0 0 0 0 0 0 0"},
		{".+\u06612++\u0661\u0627", 0, "0 0 2 0 0 0 2 1"},
		{"\u05d0\u0627\u05d01\u0627,+1\u06272", 0, "1 1 1 2 1 1 1 2 1 2"},
		{"\u05d0!a1\u05d0\u202ba\u202a\u202c!\u202d1a\u05d0", 0, "1 0 0 0 1 -1 2 -1 -1 2 -1 2 2 2"},
		{"\u0301\u2066(\u2068\u2068(()", 0, "0 0 2 2 4 6 6 6"},
		{"\u05d0a\u2067\u2068\u202c\u05d0(", 0, "1 0 0 1 -1 3 3"},
		{" ! (!\u05d1)()[\u05d1ba ", 1, "1 1 1 1 1 1 1 1 1 1 1 2 2 1"},
		{"\u05d01[aa ] ( )", 1, "1 2 1 2 2 1 1 1 1 1 1"},
		{"%,\u0661%\u0627a1", 1, "1 1 2 1 1 2 2"},
		{"1\u05d0\u0660\u0660!\u0660\u0627%\u05d0\u05d0.", 1, "2 1 2 2 1 2 1 1 1 1 1"},
		{"a\u202e \u202e\u202b\u202a\u05d0\u202b\u202a\u202e\u202a\u05d0\u202e\u202c\u05d0", 1, "2 -1 3 -1 -1 -1 9 -1 -1 -1 -1 13 -1 -1 13"},
		{"\u0301\u2069!(\u2067\u2069(\u0301\u03011\u0301", 1, "1 1 1 1 1 1 1 1 1 2 2"},
		{"\u2069\u2068a\u00ad)\u2067a\u202a\u2069\u2069", 1, "1 1 2 -1 2 2 4 -1 2 1"},
		{"!\u05d1\u05d0[(]]", 0, "0 1 1 0 0 0 0"},
		{")[\u0301\u05d0 ()(\u0301 (", 0, "0 0 0 1 0 0 0 0 0 0 0"},
		{"a1-\u0627.\u06271++.\u0661\u0661", 0, "0 0 0 1 1 1 2 1 1 1 2 2"},
		{"\u0627,\u0660,.1%", 0, "1 1 2 1 1 2 0"},
		{"11\u202b\u202da\u202a\u202b\u05d0\u202a\u202c\u202d\u05d0\u202e\u202e", 0, "0 0 -1 -1 2 -1 -1 5 -1 -1 -1 6 -1 -1"},
		{" !a\u2066\u2069((\u2067\u2069)\u2068 ! ", 0, "0 0 0 0 0 0 0 0 0 0 0 2 2 2"},
		{"\u202b\u03011\u2069\u202ba\u202a\u202b", 0, "-1 1 2 1 -1 4 -1 -1"},
		{"))[\u05d0\u05d1(a([)] ()]", 1, "1 1 1 1 1 1 2 1 1 1 1 1 1 1 1"},
		{"(]a \u0301[1\u05d0\u0301 ]]\u0301a\u05d0", 1, "1 1 2 1 1 1 2 1 1 1 1 1 1 2 1"},
		{"-,a %-+2\u05d0\u0661\u0661", 1, "1 1 2 2 2 2 2 2 1 2 2"},
		{"\u0627 \u0627\u0660+..,\u0660", 1, "1 1 1 2 1 1 1 1 2"},
		{"\u202b1\u202e\u202c\u05d0\u05d0  1!a\u05d0\u05d0", 1, "-1 4 -1 -1 3 3 3 3 4 3 4 3 3"},
		{"\u2069a!\u2067\u2067\u2067\u05d0\u2068", 1, "1 2 1 1 3 5 7 7"},
		{",(\u2069\u2069)a\u2069,,),\u202b\u202b,\u202c", 1, "1 1 1 1 1 2 1 1 1 1 1 -1 -1 5 -1"},
		{"ba\u05d1([\u05d1)\u05d1\u05d0()", 0, "0 0 1 1 1 1 1 1 1 0 0"},
		{" [aaa\u0301\u05d0a1\u05d0(\u05d0\u05d0((", 0, "0 0 0 0 0 0 1 0 0 1 1 1 1 0 0"},
		{"%,+%1%1\u0627 \u05d0+ \u0627", 0, "0 0 0 0 0 0 0 1 1 1 1 1 1"},
		{".\u0660  \u0627+!\u05d0!!1!2", 0, "0 2 1 1 1 1 1 1 1 1 2 1 2"},
		{"\u202e\u202a\u202d\u202b\u202d !", 0, "-1 -1 -1 -1 -1 6 6"},
		{"a\u2066\u2068\u2068\u2069!)\u2069", 0, "0 0 2 4 4 4 4 2"},
		{"\u2068\u2069\u00ad,\u2069,\u00ad", 0, "0 0 -1 0 0 0 -1"},
		{")]a[[(\u05d0", 1, "1 1 2 1 1 1 1"},
		{"(\u0301] (1] )]", 1, "1 1 1 1 1 2 1 1 1 1"},
		{"2%%a2\u05d0\u0661 +", 1, "2 2 2 2 2 1 2 1 1"},
		{"\u0627+\u05d01\u0660%\u0627\u05d022+\u05d0 2", 1, "1 1 1 2 2 1 1 1 2 2 1 1 1 2"},
		{"\u202a\u202a1\u202a\u202c\u202a\u202b", 1, "-1 -1 4 -1 -1 -1 -1"},
		{" )(a1\u2066 \u0301\u2069a", 1, "1 1 1 2 2 2 2 2 2 2"},
		{"\u202a\u202b\u2069a\u2068 ,\u0301\u202c1", 1, "-1 -1 3 4 3 4 4 4 -1 4"},
		{")[ \u05d1](!! ", 0, "0 0 0 1 0 0 0 0 0"},
		{")(([\u05d0((", 0, "0 0 0 0 1 0 0"},
		{"2,%+.,\u0627", 0, "0 0 0 0 0 0 1"},
		{"\u0660\u0627+\u05d0\u0627 \u05d0!%", 0, "2 1 1 1 1 1 1 0 0"},
		{"\u202b!!\u202b\u202b\u202e\u202a\u202e \u202e\u202c\u202da1a", 0, "-1 1 1 -1 -1 -1 -1 -1 9 -1 -1 -1 10 10 10"},
		{"\u05d0()\u2066\u2066a\u2068!\u2069aa\u2069\u05d0", 0, "1 0 0 0 2 4 4 6 4 4 4 2 3"},
		{",\u2067\u05d0,\u202b\u05d0\u2069", 0, "0 0 1 1 -1 3 0"},
		{"a((][aa  )b((\u05d0", 1, "2 2 2 2 2 2 2 2 2 2 2 1 1 1"},
		{"\u0301 )(] \u0301(a \u05d0a[", 1, "1 1 1 1 1 1 1 1 2 1 1 2 1"},
		{"1 111\u0627\u0627", 1, "2 1 2 2 2 1 1"},
		{"\u0660%\u05d0\u0660!+\u06602+\u06272", 1, "2 1 1 2 1 1 2 2 1 1 2"},
		{"\u202d\u202c\u202b\u202b\u202e\u202e\u202a\u202a\u202a1a", 1, "-1 -1 -1 -1 -1 -1 -1 -1 -1 14 14"},
		{" \u2068(\u2066 a\u2068\u2068", 1, "1 1 2 2 4 4 4 6"},
		{"\u202c1)\u2069,,\u05d0\u2069\u00ad\u2069\u2067\u202b\u2068\u00ad\u202a", 1, "-1 2 1 1 1 1 1 1 -1 1 1 -1 5 -1 -1"},
	})
}
