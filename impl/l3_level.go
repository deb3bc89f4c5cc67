package impl

import "slices"

// LevelMax bounds levels that are told by letters.
const LevelMax = 20

// levelTop is the greatest level that a letter can have: rules put at most two on top of what is told.
const levelTop = LevelMax + 2

// LevelBase is the level of a text by its first letter that is read from a side.
func LevelBase(runes []int) int {
	if !lettersOk(runes) {
		return 0
	}
	classes := classesOf(runes)
	return sideBetween(classes, matesOf(classes), 0, len(classes))
}

func classesOf(runes []int) []int {
	classes := make([]int, len(runes))
	for at, r := range runes {
		classes[at] = RuneBidi(r)
	}
	return classes
}

func opens(class int) bool {
	return class == BidiLRI || class == BidiRLI || class == BidiFSI
}

// matesOf is the mate of each that opens, and of each mate the one that opens; -1 of all others.
func matesOf(classes []int) []int {
	mates := make([]int, len(classes))
	var open []int
	for at, class := range classes {
		mates[at] = -1
		if opens(class) {
			open = append(open, at)
		} else if class == BidiPDI && len(open) > 0 {
			last := open[len(open)-1]
			open = open[:len(open)-1]
			mates[at], mates[last] = last, at
		}
	}
	return mates
}

// sideBetween is the side of letters from one up to, but without, another one; what is alone there does not count.
func sideBetween(classes []int, mates []int, from int, to int) int {
	for at := from; at < to; at++ {
		switch class := classes[at]; {
		case class == BidiL:
			return 0
		case class == BidiR || class == BidiAL:
			return 1
		case opens(class) && mates[at] < 0:
			return 0
		case opens(class):
			at = mates[at]
		}
	}
	return 0
}

// sideOf is the class that letters of a level are read like.
func sideOf(level int) int {
	if level%2 == 0 {
		return BidiL
	}
	return BidiR
}

// stackedLevel is one level of the stack; side is 0 if there is none for all.
type stackedLevel struct {
	level int
	side  int
	alone bool
	below *stackedLevel
}

// levelStack is the levels that are open, the last one on top, and how many could not be pushed.
type levelStack struct {
	top     *stackedLevel
	lost    int
	skipped int
}

func (s *levelStack) push(next stackedLevel, direction int) {
	next.level = s.top.level + 1
	if sideOf(next.level) != direction {
		next.level++
	}
	switch {
	case next.level <= LevelMax && s.lost == 0 && s.skipped == 0:
		next.below = s.top
		s.top = &next
	case next.alone:
		s.lost++
	case s.lost == 0:
		s.skipped++
	}
}

func (s *levelStack) endEmbedded() {
	switch {
	case s.lost > 0:
	case s.skipped > 0:
		s.skipped--
	case !s.top.alone && s.top.below != nil:
		s.top = s.top.below
	}
}

func (s *levelStack) endAlone() {
	if s.lost > 0 {
		s.lost--
		return
	}
	last := s.top
	for last != nil && !last.alone {
		last = last.below
	}
	// The lowest level is never alone, so there is one below.
	if last != nil {
		s.skipped = 0
		s.top = last.below
	}
}

// toldText is letters with what they tell of their levels.
type toldText struct {
	base    int
	letters []int // their classes as letters
	mates   []int
	levels  []int
	classes []int // their classes as told
}

// tellLevels answers nil for what is not ok.
func tellLevels(runes []int, base int) *toldText {
	if !lettersOk(runes) || base != 0 && base != 1 {
		return nil
	}
	t := &toldText{base: base, letters: classesOf(runes)}
	t.mates = matesOf(t.letters)
	t.levels = make([]int, len(runes))
	t.classes = make([]int, len(runes))
	stack := &levelStack{top: &stackedLevel{level: base}}
	for at := range runes {
		t.tellLetter(stack, at)
	}
	return t
}

func (t *toldText) tellLetter(stack *levelStack, at int) {
	class := t.letters[at]
	t.levels[at] = -1
	switch class {
	case BidiBN:
		return
	case BidiLRE:
		stack.push(stackedLevel{}, BidiL)
		return
	case BidiRLE:
		stack.push(stackedLevel{}, BidiR)
		return
	case BidiLRO:
		stack.push(stackedLevel{side: BidiL}, BidiL)
		return
	case BidiRLO:
		stack.push(stackedLevel{side: BidiR}, BidiR)
		return
	case BidiPDF:
		stack.endEmbedded()
		return
	case BidiPDI:
		stack.endAlone()
	}
	t.levels[at], t.classes[at] = stack.top.level, class
	if stack.top.side != 0 {
		t.classes[at] = stack.top.side
	}
	if opens(class) {
		stack.push(stackedLevel{alone: true}, t.openedSide(at))
	}
}

func (t *toldText) openedSide(at int) int {
	switch t.letters[at] {
	case BidiRLI:
		return BidiR
	case BidiFSI:
		end := t.mates[at]
		if end < 0 {
			end = len(t.letters)
		}
		return sideOf(sideBetween(t.letters, t.mates, at+1, end))
	}
	return BidiL
}

// LevelsTold is the level of each letter as it is told, -1 for such as only tell, and its class then.
func LevelsTold(runes []int, base int) ([]int, []int) {
	t := tellLevels(runes, base)
	if t == nil {
		return nil, nil
	}
	return t.levels, t.classes
}

type places []int

func (p places) first() int {
	return p[0]
}

func (p places) last() int {
	return p[len(p)-1]
}

// pick is what a list has at these places.
func (p places) pick(list []int) []int {
	picked := make([]int, len(p))
	for i, at := range p {
		picked[i] = list[at]
	}
	return picked
}

// readTogether is the places of letters that are read together; it has one at least.
type readTogether struct {
	places
	level int
}

// pieces is the letters of one level side by side; next says for each letter that begins one which it is, and -1 for others.
func (t *toldText) pieces() (list []readTogether, next []int) {
	next = make([]int, len(t.levels))
	for at, level := range t.levels {
		next[at] = -1
		if level < 0 {
			continue
		}
		if len(list) == 0 || list[len(list)-1].level != level {
			next[at] = len(list)
			list = append(list, readTogether{level: level})
		}
		piece := &list[len(list)-1]
		piece.places = append(piece.places, at)
	}
	return list, next
}

// together puts pieces together over what stands alone between them.
func (t *toldText) together() []readTogether {
	list, next := t.pieces()
	var whole []readTogether
	for _, piece := range list {
		if t.letters[piece.first()] == BidiPDI && t.mates[piece.first()] >= 0 {
			continue
		}
		for mate := t.mateOfLast(piece); mate >= 0 && next[mate] >= 0; mate = t.mateOfLast(piece) {
			piece.places = append(piece.places, list[next[mate]].places...)
		}
		whole = append(whole, piece)
	}
	return whole
}

// mateOfLast is the mate of the last letter, if that opens and has one; else -1.
func (t *toldText) mateOfLast(r readTogether) int {
	if !opens(t.letters[r.last()]) {
		return -1
	}
	return t.mates[r.last()]
}

// LevelRuns is the places of letters that are read together: those of one level, what stands within being left out.
func LevelRuns(runes []int, base int) [][]int {
	t := tellLevels(runes, base)
	if t == nil {
		return nil
	}
	var runs [][]int
	for _, r := range t.together() {
		runs = append(runs, slices.Clone([]int(r.places)))
	}
	return runs
}

func classesOk(classes []int) bool {
	if len(classes) > TextMax {
		return false
	}
	for _, class := range classes {
		if class < BidiL || class > BidiPDI {
			return false
		}
	}
	return true
}

func isSide(class int) bool {
	return class == BidiL || class == BidiR
}

// weakText is classes on which the rules for figures and signs work in place.
type weakText struct {
	classes []int
	before  int
}

// LevelWeak is the classes of letters that are read together, behind rules for figures and signs.
func LevelWeak(classes []int, before int) []int {
	if !classesOk(classes) || !isSide(before) {
		return nil
	}
	w := &weakText{slices.Clone(classes), before}
	rules := [...]func(){
		w.marksGoWithLetters,
		w.figuresBehindAL,
		w.lettersOfTheRight,
		w.signsBetweenFigures,
		w.signsBesideFigures,
		w.signsLeftOver,
		w.figuresOfTheLeft,
	}
	for _, rule := range rules {
		rule()
	}
	return w.classes
}

func (w *weakText) marksGoWithLetters() {
	ahead := w.before
	for at, class := range w.classes {
		if class == BidiNSM {
			class = ahead
			if opens(ahead) || ahead == BidiPDI {
				class = BidiON
			}
			w.classes[at] = class
		}
		ahead = class
	}
}

func (w *weakText) figuresBehindAL() {
	last := w.before
	for at, class := range w.classes {
		if isSide(class) || class == BidiAL {
			last = class
		} else if class == BidiEN && last == BidiAL {
			w.classes[at] = BidiAN
		}
	}
}

func (w *weakText) lettersOfTheRight() {
	for at, class := range w.classes {
		if class == BidiAL {
			w.classes[at] = BidiR
		}
	}
}

func (w *weakText) signsBetweenFigures() {
	for at := 1; at+1 < len(w.classes); at++ {
		class, ahead, behind := w.classes[at], w.classes[at-1], w.classes[at+1]
		if ahead != behind {
			continue
		}
		if ahead == BidiEN && (class == BidiES || class == BidiCS) || ahead == BidiAN && class == BidiCS {
			w.classes[at] = ahead
		}
	}
}

func (w *weakText) signsBesideFigures() {
	for from := 0; from < len(w.classes); from++ {
		if w.classes[from] != BidiET {
			continue
		}
		to := from + 1
		for to < len(w.classes) && w.classes[to] == BidiET {
			to++
		}
		if from > 0 && w.classes[from-1] == BidiEN || to < len(w.classes) && w.classes[to] == BidiEN {
			fill(w.classes[from:to], BidiEN)
		}
		from = to - 1
	}
}

func fill(list []int, value int) {
	for at := range list {
		list[at] = value
	}
}

func (w *weakText) signsLeftOver() {
	for at, class := range w.classes {
		if class == BidiES || class == BidiET || class == BidiCS {
			w.classes[at] = BidiON
		}
	}
}

func (w *weakText) figuresOfTheLeft() {
	last := w.before
	for at, class := range w.classes {
		if isSide(class) {
			last = class
		} else if class == BidiEN && last == BidiL {
			w.classes[at] = BidiL
		}
	}
}

func isPlain(class int) bool {
	return class == BidiS || class == BidiWS || class == BidiON || class >= BidiLRI
}

// sideLike is the side that a class counts as, 0 if it has none.
func sideLike(class int) int {
	switch class {
	case BidiL:
		return BidiL
	case BidiR, BidiEN, BidiAN:
		return BidiR
	}
	return 0
}

// LevelPlain is the classes of letters that are read together, behind rules for what has no side of its own.
func LevelPlain(classes []int, before int, after int, level int) []int {
	if !classesOk(classes) || !isSide(before) || !isSide(after) || level < 0 || level > levelTop {
		return nil
	}
	told := slices.Clone(classes)
	ahead := before
	for from := 0; from < len(told); from++ {
		if !isPlain(told[from]) {
			ahead = told[from]
			continue
		}
		to := from + 1
		for to < len(told) && isPlain(told[to]) {
			to++
		}
		behind := after
		if to < len(told) {
			behind = told[to]
		}
		fill(told[from:to], sideAmong(ahead, behind, level))
		from = to - 1
	}
	return told
}

func sideAmong(ahead int, behind int, level int) int {
	side := sideLike(ahead)
	if side == 0 || side != sideLike(behind) {
		return sideOf(level)
	}
	return side
}

// LevelsOf is the level of each letter, -1 for such as only tell.
func LevelsOf(runes []int, base int) []int {
	t := tellLevels(runes, base)
	if t == nil {
		return nil
	}
	levels := slices.Clone(t.levels)
	for _, r := range t.together() {
		classes := t.resolve(r, runes)
		for i, at := range r.places {
			levels[at] += levelsMore(r.level, classes[i])
		}
	}
	return levels
}

// resolve is the sides of letters that are read together, figures that keep a level of their own left as such.
func (t *toldText) resolve(r readTogether, runes []int) []int {
	before, after := t.sidesAround(r)
	told := r.pick(t.classes)
	b := &bracketText{told: told, classes: LevelWeak(told, before), before: before, own: sideOf(r.level)}
	for _, pair := range LevelMates(r.pick(runes), b.classes) {
		b.resolvePair(pair[0], pair[1])
	}
	return LevelPlain(b.classes, before, after, r.level)
}

func (t *toldText) sidesAround(r readTogether) (before int, after int) {
	ahead, behind := t.levelBeside(r.first(), -1), t.base
	if !opens(t.letters[r.last()]) || t.mates[r.last()] >= 0 {
		behind = t.levelBeside(r.last(), 1)
	}
	return sideOf(max(r.level, ahead)), sideOf(max(r.level, behind))
}

// levelBeside is the level of the next letter that has one, going by step; base, if there is none.
func (t *toldText) levelBeside(at int, step int) int {
	for at += step; at >= 0 && at < len(t.levels); at += step {
		if t.levels[at] >= 0 {
			return t.levels[at]
		}
	}
	return t.base
}

func levelsMore(level int, class int) int {
	switch {
	case class == sideOf(level):
		return 0
	case level%2 == 0 && class != BidiR:
		return 2
	}
	return 1
}

// bracketText is classes in which brackets get their sides in place; told is what they were before any rule.
type bracketText struct {
	told    []int
	classes []int
	before  int
	own     int
}

func (b *bracketText) resolvePair(open int, shut int) {
	own, other := false, false
	for _, class := range b.classes[open+1 : shut] {
		side := sideLike(class)
		own = own || side == b.own
		other = other || side != 0 && side != b.own
	}
	if !own && !other {
		return
	}
	side := b.own
	if !own {
		// Whatever is not the own side is the other one, and with that alone within it counts just if it is so ahead, too.
		side = b.sideAhead(open)
	}
	b.give(open, side)
	b.give(shut, side)
}

func (b *bracketText) sideAhead(at int) int {
	for at--; at >= 0; at-- {
		if side := sideLike(b.classes[at]); side != 0 {
			return side
		}
	}
	return b.before
}

// give lets what stood on a bracket go with it.
func (b *bracketText) give(at int, side int) {
	b.classes[at] = side
	for at++; at < len(b.told) && b.told[at] == BidiNSM; at++ {
		b.classes[at] = side
	}
}

// LevelMates is places of brackets that go together.
func LevelMates(runes []int, classes []int) [][]int {
	if !lettersOk(runes) || !classesOk(classes) || len(runes) != len(classes) {
		return nil
	}
	var pairs [][]int
	var open []int
	for at, r := range runes {
		mate := RuneMate(r)
		if mate == 0 || classes[at] != BidiON {
			continue
		}
		if r < mate {
			open = append(open, at)
			continue
		}
		for i := len(open) - 1; i >= 0; i-- {
			if runes[open[i]] == mate {
				pairs = append(pairs, []int{open[i], at})
				open = open[:i]
				break
			}
		}
	}
	slices.SortFunc(pairs, func(a []int, b []int) int { return a[0] - b[0] })
	return pairs
}
