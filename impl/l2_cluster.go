package impl

import "slices"

const (
	runeJoiner = 8205
	flagFirst  = 127462
	flagLast   = 127487
)

// joinState is what has to be known of all letters ahead to say whether the next one joins them.
type joinState int

const (
	joinStart   joinState = iota // there is no letter ahead
	joinPlain                    // nothing of what is ahead matters
	joinReturn                   // 13 is right ahead
	joinNewline                  // 10 is right ahead
	joinFlag                     // half a flag is right ahead: these letters go two by two
)

func isFlag(r int) bool {
	return r >= flagFirst && r <= flagLast
}

func (s joinState) joins(r int) bool {
	switch {
	case s == joinStart:
		return false
	case s == joinNewline || r == runeNewline:
		return s == joinReturn && r == runeNewline
	case RuneBidi(r) == BidiNSM || r == runeJoiner:
		return true
	}
	return s == joinFlag && isFlag(r)
}

func (s joinState) after(r int) joinState {
	switch {
	case r == runeReturn:
		return joinReturn
	case r == runeNewline:
		return joinNewline
	case isFlag(r) && s != joinFlag:
		return joinFlag
	}
	return joinPlain
}

// ClusterStarts is where what is taken for one letter begins.
func ClusterStarts(runes []int) []int {
	if !lettersOk(runes) {
		return nil
	}
	var starts []int
	state := joinStart
	for at, r := range runes {
		if !state.joins(r) {
			starts = append(starts, at)
		}
		state = state.after(r)
	}
	return starts
}

// ClusterAt is the beginning of what a letter is taken together with.
func ClusterAt(runes []int, at int) int {
	starts := ClusterStarts(runes)
	if len(starts) == 0 || at < 0 || at >= len(runes) {
		return -1
	}
	next, found := slices.BinarySearch(starts, at)
	if found {
		return at
	}
	// The first letter begins a cluster, so one begins ahead.
	return starts[next-1]
}

// ClusterWide is how wide what begins at a letter is.
func ClusterWide(runes []int, at int) int {
	starts := ClusterStarts(runes)
	which, found := slices.BinarySearch(starts, at)
	if !found {
		return 0
	}
	return wideOfCluster(runes, starts, which)
}

// wideOfCluster is how wide one of the clusters is that begin so.
func wideOfCluster(runes []int, starts []int, which int) int {
	end := len(runes)
	if which+1 < len(starts) {
		end = starts[which+1]
	}
	wide := 0
	for _, r := range runes[starts[which]:end] {
		wide = max(wide, RuneWide(r))
	}
	return wide
}
