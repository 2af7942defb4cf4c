package tests

import (
	"fmt"
	"math"
	"slices"
	"testing"

	"loop.example/s01685/impl"
)

// someRunes are n runes that differ, zero, a break and the ends of int32 among them.
func someRunes(n int) []int32 {
	first := []int32{97, 0, 10, math.MinInt32, math.MaxInt32, -1}
	var text []int32
	for k := range n {
		if k < len(first) {
			text = append(text, first[k])
		} else {
			text = append(text, int32(1000+k))
		}
	}
	return text
}

// Promise 5: when the gap grows and by how much, and where it is then, by hand.
func TestGapInsertByHand(t *testing.T) {
	twenty := "abcdefghijklmnopqrst"
	for _, c := range []struct {
		name string
		in   impl.Gap
		at   int
		put  string
		want impl.Gap
	}{
		{"nothing into nothing", impl.Gap{}, 0, "", impl.Gap{}},
		{"from nothing", impl.Gap{}, 0, "a", cells("a", 15, "")},
		{"from nothing to MinCells", impl.Gap{}, 0, "abcdefghijklmnop", cells("abcdefghijklmnop", 0, "")},
		{"from nothing by a doubling", impl.Gap{}, 0, "abcdefghijklmnopq", cells("abcdefghijklmnopq", 15, "")},
		{"from nothing by two doublings", impl.Gap{}, 0, twenty + "0123456789abc", cells(twenty+"0123456789abc", 31, "")},
		{"from a gap alone, exactly", cells("", 2, ""), 0, "ab", cells("ab", 0, "")},
		{"from a gap alone, one to spare", cells("", 3, ""), 0, "ab", cells("ab", 1, "")},
		{"from a gap alone, one too few", cells("", 1, ""), 0, "ab", cells("ab", 14, "")},
		{"c less the length is enough at the start", cells("abc", 0, ""), 3, "x", cells("abcx", 12, "")},
		{"c less the length is just enough at the start", cells("abcd", 1, ""), 4, "0123456789ab", cells("abcd0123456789ab", 0, "")},
		{"c less the length is one too few at the start", cells("abcd", 1, ""), 4, "0123456789abc", cells("abcd0123456789abc", 15, "")},
		{"from more than MinCells", cells(twenty, 0, ""), 0, "x", cells("x", 19, twenty)},
		{"from more than MinCells, the doubling just enough", cells(twenty, 0, ""), 20, twenty, cells(twenty+twenty, 0, "")},
		{"from more than MinCells, by two", cells(twenty, 0, ""), 20, twenty + "u", cells(twenty+twenty+"u", 39, "")},
		{"from MinCells exactly", cells("abcdefghijklmnop", 0, ""), 16, "q", cells("abcdefghijklmnopq", 15, "")},
		{"from one less than MinCells", cells("abcdefghijklmno", 0, ""), 15, "p", cells("abcdefghijklmnop", 0, "")},
		{"from one more than MinCells", cells("abcdefghijklmnopq", 0, ""), 17, "r", cells("abcdefghijklmnopqr", 16, "")},
		{"a gap that isn't full is no reason to double", cells("abcdefghijklmn", 2, ""), 0, "xyz", cells("xyz", 15, "abcdefghijklmn")},
		{"the gap before", cells("a", 3, "bcd"), 3, "x", cells("abcx", 2, "d")},
		{"the gap behind", cells("abc", 3, "d"), 1, "x", cells("ax", 2, "bcd")},
		{"the gap far behind", cells("abcdef", 1, "g"), 1, "x", cells("ax", 0, "bcdefg")},
		{"no runes, no gap", cells("abc", 0, ""), 1, "", cells("a", 0, "bc")},
		{"no runes, the gap moves", cells("abc", 2, "d"), 1, "", cells("a", 2, "bcd")},
		{"no runes, the gap moves to the end", cells("", 2, "abcd"), 4, "", cells("abcd", 2, "")},
		{"no runes, the gap stays", cells("ab", 20, "cd"), 2, "", cells("ab", 20, "cd")},
	} {
		got, code := impl.GapInsert(c.in, c.at, letters(c.put))
		wantGap(t, c.name, got, code, c.want)
	}
}

// Promise 5: at every place of gap buffers with the gap at every place, with no gap, no cells and no text, into gaps that
// hold the new runes exactly, with cells to spare and with too few.
func TestGapInsertEverywhere(t *testing.T) {
	for _, length := range []int{0, 1, 2, 3, 7, 14, 15, 16, 17, 20, 33} {
		text := someRunes(length)
		for _, size := range []int{0, 1, 2, 3, 5, 13, 16, 40} {
			for lo := range length + 1 {
				in := gapAt(text, lo, size)
				for at := range length + 1 {
					for _, n := range []int{0, 1, 2, max(0, size-1), size, size + 1, size + 17} {
						put := slices.Repeat([]int32{98}, n)
						got, code := impl.GapInsert(in, at, put)
						wantGap(t, fmt.Sprintf("%d runes at %d into %s", n, at, spellGap(in)), got, code, modelGapInsert(in, at, put))
					}
				}
			}
		}
	}
}

// Promise 5: deletion of nothing, of all, of runes before, behind and around the gap.
func TestGapDeleteByHand(t *testing.T) {
	for _, c := range []struct {
		name   string
		in     impl.Gap
		lo, hi int
		want   impl.Gap
	}{
		{"nothing of nothing", impl.Gap{}, 0, 0, impl.Gap{}},
		{"nothing of a gap", cells("", 4, ""), 0, 0, cells("", 4, "")},
		{"nothing, the gap moves", cells("abc", 2, "d"), 1, 1, cells("a", 2, "bcd")},
		{"nothing, no gap", cells("abc", 0, ""), 0, 0, cells("", 0, "abc")},
		{"all", cells("ab", 0, "cd"), 0, 4, cells("", 4, "")},
		{"all around a gap", cells("ab", 3, "cd"), 0, 4, cells("", 7, "")},
		{"just before the gap", cells("abc", 2, "d"), 1, 3, cells("a", 4, "d")},
		{"far before the gap", cells("abcd", 1, "e"), 0, 2, cells("", 3, "cde")},
		{"just behind the gap", cells("a", 2, "bcd"), 1, 2, cells("a", 3, "cd")},
		{"far behind the gap", cells("a", 1, "bcde"), 3, 4, cells("abc", 2, "e")},
		{"around the gap", cells("abc", 2, "def"), 2, 4, cells("ab", 4, "ef")},
		{"with no gap", cells("abcdef", 0, ""), 2, 5, cells("ab", 3, "f")},
	} {
		got, code := impl.GapDelete(c.in, c.lo, c.hi)
		wantGap(t, c.name, got, code, c.want)
	}
}

// Promise 5: every range of gap buffers with the gap at every place is deleted and read; places outside are refused.
func TestGapDeleteAndReadEverywhere(t *testing.T) {
	for _, length := range []int{0, 1, 2, 5, 9} {
		text := someRunes(length)
		for _, size := range []int{0, 1, 3, 8, 30} {
			for from := range length + 1 {
				in := gapAt(text, from, size)
				for lo := -2; lo <= length+2; lo++ {
					for hi := -2; hi <= length+2; hi++ {
						wantGapRange(t, in, text, lo, hi)
					}
				}
			}
		}
	}
}

func wantGapRange(t *testing.T, in impl.Gap, text []int32, lo, hi int) {
	t.Helper()
	what := fmt.Sprintf("%d to %d of %s", lo, hi, spellGap(in))
	got, code := impl.GapDelete(in, lo, hi)
	read, readCode := impl.GapRead(in, lo, hi)
	if lo < 0 || hi < lo || len(text) < hi {
		wantNoGap(t, "deleting "+what, got, code, impl.ErrRange)
		wantNoText(t, "reading "+what, read, readCode, impl.ErrRange)
		return
	}
	wantGap(t, "deleting "+what, got, code, modelGapDelete(in, lo, hi))
	if readCode != impl.OK {
		t.Errorf("reading %s: code %d", what, readCode)
	}
	wantSame(t, "reading "+what, read, text[lo:hi])
}

// Promise 5: many edits, one behind the other; the text is that of a plain list.
func TestGapManyEdits(t *testing.T) {
	for seed := range 5 {
		d := dice(seed)
		var g impl.Gap
		var text []int32
		for step := range 400 {
			lo := d.roll(len(text) + 1)
			var code int
			var want impl.Gap
			if d.roll(3) > 0 {
				put := someRunes(d.roll(7))
				want = modelGapInsert(g, lo, put)
				g, code = impl.GapInsert(g, lo, put)
				text = slices.Insert(slices.Clone(text), lo, put...)
			} else {
				hi := min(len(text), lo+d.roll(9))
				want = modelGapDelete(g, lo, hi)
				g, code = impl.GapDelete(g, lo, hi)
				text = slices.Delete(slices.Clone(text), lo, hi)
			}
			wantGap(t, fmt.Sprintf("seed %d, step %d", seed, step), g, code, want)
			read, code := impl.GapRead(g, 0, len(text))
			if code != impl.OK {
				t.Fatalf("seed %d, step %d, reading: code %d", seed, step, code)
			}
			wantSame(t, "text", read, text)
		}
	}
}

// dice is numbers that look like chance and are the same in each run.
type diceState struct{ state uint64 }

func dice(seed int) *diceState {
	return &diceState{uint64(seed)*2862933555777941757 + 1442695040888963407}
}

// roll gives a number from 0 to below n.
func (d *diceState) roll(n int) int {
	d.state = d.state*6364136223846793005 + 1442695040888963407
	return int(d.state>>33) % n
}

// wrongGaps are gap buffers that are not valid, by each of the rules.
func wrongGaps() map[string]impl.Gap {
	five := letters("abcde")
	wrong := map[string]impl.Gap{
		"one cell too many":             gapAt(five, 2, impl.MaxCells+1-5),
		"many cells too many":           gapAt(five, 5, 3*impl.MaxCells),
		"one rune too many":             plainGap(make([]int32, impl.MaxText+1)),
		"one rune too many, gap inside": gapAt(make([]int32, impl.MaxText+1), 100, 50),
		"all cells are text":            plainGap(make([]int32, impl.MaxCells)),
		"Lo negative":                   {Cells: five, Lo: -1, Hi: 0},
		"Lo behind Hi":                  {Cells: five, Lo: 3, Hi: 2},
		"Lo behind Hi at the start":     {Cells: five, Lo: 1, Hi: 0},
		"Hi behind the cells":           {Cells: five, Lo: 5, Hi: 6},
		"Lo and Hi behind the cells":    {Cells: five, Lo: 6, Hi: 6},
		"Hi negative":                   {Cells: five, Lo: -1, Hi: -1},
		"no cells, Lo negative":         {Lo: -1, Hi: 0},
		"no cells, Hi behind":           {Lo: 0, Hi: 1},
		"no cells, both behind":         {Lo: 1, Hi: 1},
	}
	for k := range 3 {
		g := gapAt(five, 2, 3)
		g.Cells[2+k] = []int32{1, -1, 10}[k]
		wrong[fmt.Sprintf("cell %d of the gap is not 0", k)] = g
	}
	all := impl.Gap{Cells: []int32{0, 0, 7}, Lo: 0, Hi: 3}
	wrong["a gap alone that is not 0"] = all
	for _, x := range extremes {
		wrong[fmt.Sprintf("Lo is %d", x)] = impl.Gap{Cells: five, Lo: x, Hi: 2}
		wrong[fmt.Sprintf("Hi is %d", x)] = impl.Gap{Cells: five, Lo: 2, Hi: x}
		wrong[fmt.Sprintf("both are %d", x)] = impl.Gap{Cells: five, Lo: x, Hi: x}
		wrong[fmt.Sprintf("from %d to its opposite", x)] = impl.Gap{Cells: five, Lo: x, Hi: -x}
	}
	return wrong
}

// Promise 5: a gap buffer that isn't valid is told ahead of everything else, by all three calls.
func TestNoGap(t *testing.T) {
	for name, g := range wrongGaps() {
		if modelGapValid(g) {
			t.Fatalf("%s: the test's own wrong gap buffer is valid", name)
		}
		for _, at := range append([]int{0, 1, 5, 6}, extremes...) {
			for _, n := range []int{0, 1, impl.MaxText, impl.MaxText + 1} {
				got, code := impl.GapInsert(g, at, make([]int32, n))
				wantNoGap(t, fmt.Sprintf("%s, inserting %d at %d", name, n, at), got, code, impl.ErrBad)
			}
			for _, hi := range []int{0, 1, at, math.MaxInt} {
				got, code := impl.GapDelete(g, at, hi)
				wantNoGap(t, fmt.Sprintf("%s, deleting %d to %d", name, at, hi), got, code, impl.ErrBad)
				text, code := impl.GapRead(g, at, hi)
				wantNoText(t, fmt.Sprintf("%s, reading %d to %d", name, at, hi), text, code, impl.ErrBad)
			}
		}
	}
}

// Promise 5: gap buffers that meet the limits exactly are valid.
func TestGapsAtTheLimits(t *testing.T) {
	most := someRunes(impl.MaxText)
	for name, g := range map[string]impl.Gap{
		"MaxCells cells, no text":    gapAt(nil, 0, impl.MaxCells),
		"MaxCells cells, some text":  gapAt(most[:9], 4, impl.MaxCells-9),
		"MaxCells cells, all text":   gapAt(most, 4, impl.MaxCells-impl.MaxText),
		"MaxText runes":              plainGap(most),
		"MaxText runes and one cell": gapAt(most, impl.MaxText, 1),
	} {
		length := len(gapText(g))
		got, code := impl.GapInsert(g, length/2, nil)
		wantGap(t, name+", nothing inserted", got, code, modelGapInsert(g, length/2, nil))
		got, code = impl.GapDelete(g, length/3, length)
		wantGap(t, name+", deleted", got, code, modelGapDelete(g, length/3, length))
		text, code := impl.GapRead(g, 0, length)
		if code != impl.OK {
			t.Errorf("%s, read: code %d", name, code)
		}
		wantSame(t, name+", read", text, gapText(g))
	}
}

// Promise 5: texts that come to MaxText exactly and to one more; a place outside is told first.
func TestGapFull(t *testing.T) {
	for _, length := range []int{0, 1, 100, impl.MaxText - 1, impl.MaxText} {
		for _, size := range []int{0, 1, impl.MaxText - length, impl.MaxCells - length} {
			in := gapAt(someRunes(length), length/2, size)
			rest := impl.MaxText - length
			for _, at := range []int{0, length / 3, length} {
				put := someRunes(rest)
				got, code := impl.GapInsert(in, at, put)
				wantGap(t, fmt.Sprintf("%d runes into %d of them, gap of %d", rest, length, size), got, code, modelGapInsert(in, at, put))
				for _, more := range []int{1, 2, impl.MaxText} {
					got, code = impl.GapInsert(in, at, make([]int32, rest+more))
					wantNoGap(t, fmt.Sprintf("%d runes into %d of them", rest+more, length), got, code, impl.ErrFull)
				}
			}
			for _, at := range []int{-1, length + 1} {
				got, code := impl.GapInsert(in, at, make([]int32, rest+1))
				wantNoGap(t, fmt.Sprintf("too many at %d", at), got, code, impl.ErrRange)
			}
		}
	}
}

// Promise 5: the least and the greatest integers as places.
func TestGapPlacesOutside(t *testing.T) {
	for _, in := range []impl.Gap{{}, cells("", 3, ""), cells("ab", 3, "cd"), plainGap(someRunes(impl.MaxText))} {
		length := len(gapText(in))
		for _, x := range append([]int{-1, length + 1, len(in.Cells) + 1}, extremes...) {
			for _, put := range [][]int32{nil, {97}} {
				got, code := impl.GapInsert(in, x, put)
				wantNoGap(t, fmt.Sprintf("inserting at %d of %d", x, length), got, code, impl.ErrRange)
			}
			for _, pair := range [][2]int{{x, x}, {0, x}, {x, 0}, {x, length}, {length, x}, {x, -x}, {-x, x}} {
				got, code := impl.GapDelete(in, pair[0], pair[1])
				wantNoGap(t, fmt.Sprintf("deleting %v of %d", pair, length), got, code, impl.ErrRange)
				text, code := impl.GapRead(in, pair[0], pair[1])
				wantNoText(t, fmt.Sprintf("reading %v of %d", pair, length), text, code, impl.ErrRange)
			}
		}
	}
}

// Promise 5 with rule 4 of chapter 1: no argument is changed, not even behind its end, and no answer shares memory.
func TestGapsShareNothing(t *testing.T) {
	for _, form := range []impl.Gap{{}, cells("", 4, ""), cells("abcd", 0, ""), cells("ab", 3, "cd"), cells("abcd", 2, ""), cells("", 2, "abcd")} {
		in, check := guardedGap(t, form)
		length := len(gapText(form))
		for at := -1; at <= length+1; at++ {
			for n := range 6 {
				put, whole := spare(someRunes(n), 77)
				before := slices.Clone(whole)
				got, _ := impl.GapInsert(in, at, put)
				check("cells behind inserting")
				overwrite(got.Cells)
				check("cells behind writing into what inserting answered")
				wantSame(t, "text behind inserting and writing into the answer", whole, before)
			}
			for hi := -1; hi <= length+1; hi++ {
				got, _ := impl.GapDelete(in, at, hi)
				check("cells behind deleting")
				overwrite(got.Cells)
				check("cells behind writing into what deleting answered")
				text, _ := impl.GapRead(in, at, hi)
				check("cells behind reading")
				overwrite(text)
				check("cells behind writing into what was read")
			}
		}
		// The text that is put in may be a part of the cells themselves.
		got, code := impl.GapInsert(in, length, in.Cells)
		check("cells behind inserting themselves")
		wantGap(t, "its own cells", got, code, modelGapInsert(form, length, form.Cells))
	}
}
