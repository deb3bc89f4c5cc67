package tests

import (
	"slices"
	"testing"

	"loop.example/colophon/impl"
)

// joinsAt says by the document's words whether a letter joins the one ahead of it.
func joinsAt(runes []int, at int) bool {
	if at == 0 {
		return false
	}
	r, ahead := runes[at], runes[at-1]
	if r == 10 || ahead == 10 {
		return ahead == 13 && r == 10
	}
	if r >= 768 && r <= 879 || r == 8205 {
		return true
	}
	flags := 0
	for i := at - 1; i >= 0 && runes[i] >= 127462 && runes[i] <= 127487; i-- {
		flags++
	}
	return r >= 127462 && r <= 127487 && flags%2 == 1
}

func TestClustersByWords(t *testing.T) {
	flag := 127462
	for _, c := range []struct {
		runes []int
		want  []int
	}{
		{nil, nil},
		{[]int{768}, []int{0}},
		{[]int{8205}, []int{0}},
		{[]int{768, 879, 8205}, []int{0}},
		{runesOf("e\u0301x"), []int{0, 2}},
		{runesOf("a\u200db"), []int{0, 2}},
		{runesOf("a\u200bb"), []int{0, 1, 2}},
		{runesOf("a\u00adb"), []int{0, 1, 2}},
		{runesOf("\r\n"), []int{0}},
		{runesOf("\n\r"), []int{0, 1}},
		{runesOf("\n\n"), []int{0, 1}},
		{runesOf("\r\r\n\n"), []int{0, 1, 3}},
		{runesOf("a\n\u0301"), []int{0, 1, 2}},
		{runesOf("\r\u0301"), []int{0}},
		{runesOf("\r\u0301\n"), []int{0, 2}},
		{runesOf("\r\n\u0301\u200d"), []int{0, 2}},
		{repeated(flag, 5), []int{0, 2, 4}},
		{[]int{flag, 127487, flag, 'x', flag, flag}, []int{0, 2, 3, 4}},
		{[]int{flag, 768, flag, flag}, []int{0, 2}},
		{[]int{flag, 8205, flag}, []int{0, 2}},
		{[]int{127461, flag, 127488, 127487}, []int{0, 1, 2, 3}},
		{[]int{flag, 127461, 127488}, []int{0, 1, 2}},
		{[]int{'a', 767, 'a', 880}, []int{0, 1, 2, 3}},
		{repeated('a', impl.TextMax)[:3], []int{0, 1, 2}},
	} {
		same(t, "clusters", impl.ClusterStarts(c.runes), c.want)
	}
	someTexts(1500, func(runes []int) {
		var want []int
		for at := range runes {
			if !joinsAt(runes, at) {
				want = append(want, at)
			}
		}
		same(t, "clusters", impl.ClusterStarts(runes), want)
	})
}

// P5: Each letter is in just one cluster.
func TestEachLetterIsInOneCluster(t *testing.T) {
	someTexts(400, func(runes []int) {
		starts := impl.ClusterStarts(runes)
		last := -1
		for at, r := range runes {
			if slices.Contains(starts, at) {
				last = at
			}
			if got := impl.ClusterAt(runes, at); got != last {
				t.Fatalf("%v: cluster of %d is %d, want %d", runes, at, got, last)
			}
			if last < 0 || impl.ClusterWide(runes, last) < impl.RuneWide(r) {
				t.Fatalf("%v: the cluster of %d is too narrow", runes, at)
			}
		}
	})
}

func TestClusterWidths(t *testing.T) {
	someTexts(400, func(runes []int) {
		for at := range runes {
			want := 0
			for i := at; i < len(runes) && !joinsAt(runes, at) && (i == at || joinsAt(runes, i)); i++ {
				want = max(want, impl.RuneWide(runes[i]))
			}
			if got := impl.ClusterWide(runes, at); got != want {
				t.Fatalf("%v at %d: %d wide, want %d", runes, at, got, want)
			}
		}
	})
	runes := runesOf("m\u0301\u05d0i")
	same(t, "widths", []int{impl.ClusterWide(runes, 0), impl.ClusterWide(runes, 1), impl.ClusterWide(runes, 2), impl.ClusterWide(runes, 3)}, []int{16, 0, 12, 6})
}

func TestClustersOfWhatIsNotThere(t *testing.T) {
	runes := repeated('a', impl.TextMax)
	for _, at := range []int{-1, impl.TextMax, impl.TextMax + 1, -1 << 63, 1<<63 - 1} {
		same(t, "no such letter", []int{impl.ClusterAt(runes, at), impl.ClusterWide(runes, at)}, []int{-1, 0})
	}
	same(t, "the last letter", []int{impl.ClusterAt(runes, 79), impl.ClusterWide(runes, 79), len(impl.ClusterStarts(runes))}, []int{79, 10, 80})
	same(t, "no letters", []int{impl.ClusterAt(nil, 0), impl.ClusterWide(nil, 0)}, []int{-1, 0})
	for _, bad := range badLetters() {
		same(t, "bad letters", []int{len(impl.ClusterStarts(bad)), impl.ClusterAt(bad, 0), impl.ClusterWide(bad, 0)}, []int{0, -1, 0})
	}
}

// P6: Where a cluster begins a text can be cut.
func TestTextsAreCutWhereClustersBegin(t *testing.T) {
	someTexts(400, func(runes []int) {
		starts := impl.ClusterStarts(runes)
		for i, start := range starts {
			same(t, "clusters ahead", impl.ClusterStarts(runes[:start]), starts[:i])
		}
	})
}
