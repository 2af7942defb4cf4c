package tests

import (
	"fmt"
	"slices"
	"testing"

	"loop.example/s01685/impl"
)

// letters makes runes of a text in ASCII.
func letters(s string) []int32 {
	var text []int32
	for _, c := range []byte(s) {
		text = append(text, int32(c))
	}
	return text
}

// gapAt lays a text out in cells, with a gap of that size at lo.
func gapAt(text []int32, lo, size int) impl.Gap {
	cells := make([]int32, len(text)+size)
	copy(cells, text[:lo])
	copy(cells[lo+size:], text[lo:])
	return impl.Gap{Cells: cells, Lo: lo, Hi: lo + size}
}

// cells is gapAt of what stands before the gap and behind it.
func cells(before string, size int, behind string) impl.Gap {
	return gapAt(letters(before+behind), len(before), size)
}

func plainGap(text []int32) impl.Gap { return gapAt(text, len(text), 0) }

func gapText(g impl.Gap) []int32 {
	return slices.Concat(g.Cells[:g.Lo], g.Cells[g.Hi:])
}

// modelGapInsert lays the new text out by chapter 4's number of cells and place of the gap.
func modelGapInsert(g impl.Gap, at int, put []int32) impl.Gap {
	text := gapText(g)
	length, n, size := len(text), len(put), len(g.Cells)
	if g.Hi-g.Lo < n {
		c := size
		if c < 16 {
			c = 16
		}
		for c-length < n {
			c = c + c
		}
		size = c
	}
	text = slices.Insert(text, at, put...)
	return gapAt(text, at+n, size-len(text))
}

func modelGapDelete(g impl.Gap, lo, hi int) impl.Gap {
	text := slices.Delete(gapText(g), lo, hi)
	return gapAt(text, lo, len(g.Cells)-len(text))
}

func modelGapValid(g impl.Gap) bool {
	if len(g.Cells) > 65536 || g.Lo < 0 || g.Hi < g.Lo || len(g.Cells) < g.Hi {
		return false
	}
	for _, r := range g.Cells[g.Lo:g.Hi] {
		if r != 0 {
			return false
		}
	}
	return len(gapText(g)) <= 8192
}

func sameGap(a, b impl.Gap) bool {
	return a.Lo == b.Lo && a.Hi == b.Hi && slices.Equal(a.Cells, b.Cells)
}

func spellGap(g impl.Gap) string {
	return fmt.Sprintf("%v %d..%d of %d", short(g.Cells), g.Lo, g.Hi, len(g.Cells))
}

// wantGap asks for code 0 and for these cells with this gap.
func wantGap(t *testing.T, what string, got impl.Gap, code int, want impl.Gap) {
	t.Helper()
	if code != impl.OK || !sameGap(got, want) {
		t.Errorf("%s: %s, code %d, want %s", what, spellGap(got), code, spellGap(want))
	}
}

// wantNoGap asks for a code and nothing else.
func wantNoGap(t *testing.T, what string, got impl.Gap, code, want int) {
	t.Helper()
	if code != want || !sameGap(got, impl.Gap{}) {
		t.Errorf("%s: %s, code %d, want nothing and %d", what, spellGap(got), code, want)
	}
}

// wantNoText asks for a code and nothing else.
func wantNoText(t *testing.T, what string, got []int32, code, want int) {
	t.Helper()
	if code != want || len(got) != 0 {
		t.Errorf("%s: %v, code %d, want nothing and %d", what, short(got), code, want)
	}
}

// guardedGap is a gap buffer whose cells have room behind their end, and a check that neither has been written to.
func guardedGap(t *testing.T, g impl.Gap) (impl.Gap, func(what string)) {
	part, whole := spare(g.Cells, 77)
	before := slices.Clone(whole)
	return impl.Gap{Cells: part, Lo: g.Lo, Hi: g.Hi}, func(what string) {
		t.Helper()
		wantSame(t, what, whole, before)
	}
}
