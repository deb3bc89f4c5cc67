package impl

import "slices"

// Run is letters of one level, one behind the other.
type Run struct {
	From  int
	To    int
	Level int
}

// LineLevels is the levels of a line, from a letter up to another one: what stands empty at its end has the level of all.
func LineLevels(runes []int, base int, from int, to int) []int {
	if !lineThere(runes, from, to) {
		return nil
	}
	all := LevelsOf(runes, base)
	if len(all) == 0 {
		return nil
	}
	levels := slices.Clone(all[from:to])
	empty := true
	for at := len(levels) - 1; at >= 0; at-- {
		if levels[at] < 0 {
			continue
		}
		r := runes[from+at]
		empty = endsPart(r) || empty && goesWithEnd(r)
		if empty {
			levels[at] = base
		}
	}
	return levels
}

func lineThere(runes []int, from int, to int) bool {
	return from >= 0 && to >= from && to <= len(runes)
}

func endsPart(r int) bool {
	return r == runeNewline || RuneBidi(r) == BidiS
}

func goesWithEnd(r int) bool {
	return r == runeBlank || RuneBidi(r) >= BidiLRI
}

func levelsOk(levels []int) bool {
	if len(levels) > TextMax {
		return false
	}
	for _, level := range levels {
		if level < -1 || level > levelTop {
			return false
		}
	}
	return true
}

// OrderOf is the places of levels in the order in which they are seen, those below 0 left out.
func OrderOf(levels []int) []int {
	if !levelsOk(levels) {
		return nil
	}
	var order []int
	greatest := 0
	for at, level := range levels {
		if level >= 0 {
			order = append(order, at)
			greatest = max(greatest, level)
		}
	}
	for least := greatest; least >= 1; least-- {
		turnStretches(order, func(at int) bool { return levels[at] >= least })
	}
	return order
}

// turnStretches turns round, in place, all that stand side by side and belong.
func turnStretches[T any](list []T, belongs func(T) bool) {
	from := 0
	for at, item := range list {
		if !belongs(item) {
			slices.Reverse(list[from:at])
			from = at + 1
		}
	}
	slices.Reverse(list[from:])
}

// OrderBack is where each place is seen; -1 for those that are not.
func OrderBack(levels []int) []int {
	if !levelsOk(levels) {
		return nil
	}
	back := make([]int, len(levels))
	fill(back, -1)
	for seen, at := range OrderOf(levels) {
		back[at] = seen
	}
	return back
}

// RunsOf is the runs of levels.
func RunsOf(levels []int) []Run {
	if !levelsOk(levels) || len(levels) == 0 {
		return nil
	}
	runs := []Run{{Level: -1}}
	for at, level := range levels {
		last := &runs[len(runs)-1]
		if last.Level < 0 {
			// So far there were only such as go with what is behind them.
			last.Level = level
		} else if level >= 0 && level != last.Level {
			runs = append(runs, Run{From: at, Level: level})
		}
		runs[len(runs)-1].To = at + 1
	}
	return runs
}

// SeenOf is the letters of a line as they are seen, from the left.
func SeenOf(runes []int, base int, from int, to int) []int {
	levels := LineLevels(runes, base, from, to)
	var seen []int
	for _, at := range OrderOf(levels) {
		seen = append(seen, seenOn(runes[from+at], levels[at]))
	}
	return seen
}

// seenOn is what is seen of a letter on a level.
func seenOn(r int, level int) int {
	if isOdd(level) {
		return RuneMirror(r)
	}
	return r
}

func isOdd(level int) bool {
	return level%2 != 0
}
