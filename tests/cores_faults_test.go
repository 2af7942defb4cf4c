package tests

import (
	"fmt"
	"math"
	"slices"
	"testing"

	"loop.example/s01685/impl"
)

// wrongPieceBufs are piece buffers that are not valid, by each of the rules.
func wrongPieceBufs(t *testing.T) map[string]impl.PieceBuf {
	store := letters("a\nb\n\nc")
	full := countingStore(impl.MaxStore)
	one := func(off, length, breaks int) impl.Tree {
		return impl.Tree{Items: []impl.Item{{Piece: impl.Piece{Off: off, Len: length, Breaks: breaks}}}}
	}
	wrong := map[string]impl.PieceBuf{
		"a store too long, no pieces":  {Store: countingStore(impl.MaxStore + 1)},
		"a store too long, one piece":  {Store: make([]int32, impl.MaxStore+1), Tree: one(0, 1, 0)},
		"a store much too long":        {Store: make([]int32, 3*impl.MaxStore), Tree: one(5, 7, 0)},
		"a piece of no store":          {Tree: one(0, 1, 0)},
		"a piece ends behind":          {Store: store, Tree: one(0, 7, 3)},
		"a piece ends one behind":      {Store: store, Tree: one(5, 2, 0)},
		"a piece lies behind":          {Store: store, Tree: one(6, 1, 0)},
		"a piece lies far behind":      {Store: store, Tree: one(impl.MaxStore-1, 1, 0)},
		"one break too many":           {Store: store, Tree: one(0, 6, 4)},
		"one break too few":            {Store: store, Tree: one(0, 6, 2)},
		"no breaks told":               {Store: store, Tree: one(1, 1, 0)},
		"a break told where none is":   {Store: store, Tree: one(0, 1, 1)},
		"breaks of the next rune told": {Store: store, Tree: one(2, 1, 1)},
	}
	for rank := range 3 {
		items := slices.Clone(pieceBuf(t, "a\nb\n\nc", "0+2:1 2+2:0 4+2:1").Tree.Items)
		items[rank].Piece.Breaks = (items[rank].Piece.Breaks + 1) % 3
		wrong[fmt.Sprintf("a wrong number of breaks at %d", rank)] = impl.PieceBuf{Store: store, Tree: impl.Tree{Items: items}}
	}
	for name, tree := range wrongTrees() {
		wrong["tree: "+name] = impl.PieceBuf{Store: full, Tree: tree}
	}
	return wrong
}

// wrongLineBufs are line buffers that are not valid, by each of the rules.
func wrongLineBufs() map[string]impl.LineBuf {
	a, b := cells("ab", 3, ""), cells("", 1, "c")
	half := plainGap(make([]int32, impl.MaxText/2))
	wrong := map[string]impl.LineBuf{
		"nothing":                        {},
		"no rows":                        lineBuf([]int{0}),
		"no rows, several starts":        lineBuf([]int{0, 1}),
		"no starts":                      lineBuf(nil, a, b),
		"no starts of one row":           lineBuf(nil, a),
		"more starts than rows":          lineBuf([]int{0, 3}, a),
		"one start too many":             lineBuf([]int{0, 3, 5}, a, b),
		"a break before the gap":         lineBuf([]int{0}, cells("a\n", 2, "b")),
		"a break behind the gap":         lineBuf([]int{0}, cells("a", 2, "b\n")),
		"a break alone":                  lineBuf([]int{0}, cells("\n", 0, "")),
		"a break in a row that's known":  lineBuf([]int{0, 3}, a, cells("", 2, "\nx")),
		"a break in a row that isn't":    lineBuf([]int{0}, a, b, cells("x\ny", 0, "")),
		"one rune too many in one row":   lineBuf([]int{0}, plainGap(make([]int32, impl.MaxText+1))),
		"one rune too many in two rows":  lineBuf([]int{0}, half, half),
		"one break too many":             lineBuf([]int{0}, slices.Repeat([]impl.Gap{{}}, impl.MaxText+2)...),
		"many breaks too many":           lineBuf([]int{0}, slices.Repeat([]impl.Gap{{}}, impl.MaxStore)...),
		"one break too many behind a":    lineBuf([]int{0}, append([]impl.Gap{a}, slices.Repeat([]impl.Gap{{}}, impl.MaxText-1)...)...),
		"a second start one too little":  lineBuf([]int{0, 2}, a, b),
		"a second start one too much":    lineBuf([]int{0, 4}, a, b),
		"a second start of all cells":    lineBuf([]int{0, 6}, a, b),
		"a third start one too little":   lineBuf([]int{0, 3, 4}, a, b, a),
		"a third start one too much":     lineBuf([]int{0, 3, 6}, a, b, a),
		"starts that all are zero":       lineBuf([]int{0, 0, 0}, a, b, a),
		"a first start that is not zero": lineBuf([]int{1}, a, b),
		"all starts one too much":        lineBuf([]int{1, 4, 6}, a, b, a),
	}
	for _, x := range extremes {
		wrong[fmt.Sprintf("the first start is %d", x)] = lineBuf([]int{x}, a, b)
		wrong[fmt.Sprintf("the second start is %d", x)] = lineBuf([]int{0, x}, a, b)
		wrong[fmt.Sprintf("the last start is %d", x)] = lineBuf([]int{0, 3, x}, a, b, a)
	}
	for name, g := range wrongGaps() {
		wrong["only row: "+name] = lineBuf([]int{0}, g)
		wrong["first row: "+name] = lineBuf([]int{0}, g, a)
		wrong["last row, not known: "+name] = lineBuf([]int{0}, a, g)
		wrong["last row, known: "+name] = lineBuf([]int{0, 3}, a, g)
	}
	return wrong
}

// Promise 6: a piece buffer that isn't valid is told ahead of everything else, by all calls.
func TestNoPieces(t *testing.T) {
	for name, b := range wrongPieceBufs(t) {
		if modelPiecesValid(b) {
			t.Fatalf("%s: the test's own wrong buffer is valid", name)
		}
		for _, x := range []int{0, 1, -1, math.MinInt, math.MaxInt} {
			for _, n := range []int{0, 1, impl.MaxText + 1} {
				got, code := impl.PieceInsert(b, x, make([]int32, n))
				wantNoPieces(t, fmt.Sprintf("%s, inserting %d at %d", name, n, x), got, code, impl.ErrBad)
			}
			for _, hi := range []int{x, 1, math.MaxInt} {
				got, code := impl.PieceDelete(b, x, hi)
				wantNoPieces(t, fmt.Sprintf("%s, deleting %d to %d", name, x, hi), got, code, impl.ErrBad)
				text, code := impl.PieceSlice(b, x, hi)
				wantNoText(t, fmt.Sprintf("%s, reading %d to %d", name, x, hi), text, code, impl.ErrBad)
				off, code := impl.PieceOffset(b, x, hi)
				if off != 0 || code != impl.ErrBad {
					t.Errorf("%s, offset of %d, %d: %d, code %d", name, x, hi, off, code)
				}
			}
			if line, col, code := impl.PieceLineCol(b, x); line != 0 || col != 0 || code != impl.ErrBad {
				t.Errorf("%s, place of %d: %d, %d, code %d", name, x, line, col, code)
			}
		}
	}
}

// Promise 6: the same for line buffers.
func TestNoLines(t *testing.T) {
	for name, b := range wrongLineBufs() {
		if modelLinesValid(b) {
			t.Fatalf("%s: the test's own wrong buffer is valid", name)
		}
		for _, x := range []int{0, 1, -1, math.MinInt, math.MaxInt} {
			for _, n := range []int{0, 1, impl.MaxText + 1} {
				got, code := impl.LineInsert(b, x, make([]int32, n))
				wantNoLines(t, fmt.Sprintf("%s, inserting %d at %d", name, n, x), got, code, impl.ErrBad)
			}
			for _, hi := range []int{x, 1, math.MaxInt} {
				got, code := impl.LineDelete(b, x, hi)
				wantNoLines(t, fmt.Sprintf("%s, deleting %d to %d", name, x, hi), got, code, impl.ErrBad)
				got, off, code := impl.LineOffset(b, x, hi)
				wantNoLines(t, fmt.Sprintf("%s, offset of %d, %d", name, x, hi), got, code, impl.ErrBad)
				if off != 0 {
					t.Errorf("%s, offset of %d, %d: %d", name, x, hi, off)
				}
			}
			got, line, col, code := impl.LineLineCol(b, x)
			wantNoLines(t, fmt.Sprintf("%s, place of %d", name, x), got, code, impl.ErrBad)
			if line != 0 || col != 0 {
				t.Errorf("%s, place of %d: %d, %d", name, x, line, col)
			}
		}
	}
}

// Promise 6: offsets and ranges outside, the least and the greatest integers too, told ahead of a text that is too long
// and although it is empty.
func TestCoresRangesOutside(t *testing.T) {
	for _, text := range [][]int32{nil, letters("ab\ncd\n"), countingStore(impl.MaxText)} {
		pieces, lines, length := modelPieceLoad(text), modelLineLoad(text), len(text)
		for _, x := range append([]int{-1, length + 1}, extremes...) {
			for _, n := range []int{0, 1, impl.MaxText, impl.MaxText + 1, impl.MaxStore} {
				what := fmt.Sprintf("inserting %d at %d of %d", n, x, length)
				got, code := impl.PieceInsert(pieces, x, make([]int32, n))
				wantNoPieces(t, what, got, code, impl.ErrRange)
				gotLines, code := impl.LineInsert(lines, x, make([]int32, n))
				wantNoLines(t, what, gotLines, code, impl.ErrRange)
			}
			for _, pair := range [][2]int{{x, x}, {0, x}, {x, 0}, {x, length}, {length, x}, {x, -x}, {-x, x}} {
				what := fmt.Sprintf("range %v of %d", pair, length)
				got, code := impl.PieceDelete(pieces, pair[0], pair[1])
				wantNoPieces(t, what, got, code, impl.ErrRange)
				gotLines, code := impl.LineDelete(lines, pair[0], pair[1])
				wantNoLines(t, what, gotLines, code, impl.ErrRange)
				read, code := impl.PieceSlice(pieces, pair[0], pair[1])
				wantNoText(t, what, read, code, impl.ErrRange)
			}
		}
	}
}

// Promise 6: texts that come to MaxText exactly and to one more, in both cores; an empty text is never too long.
func TestCoresFullText(t *testing.T) {
	for _, length := range []int{0, 1, 4096, impl.MaxText - 1, impl.MaxText} {
		text := countingStore(length)
		pieces, lines := modelPieceLoad(text), modelLineLoad(text)
		for _, off := range []int{0, length / 2, length} {
			for n := impl.MaxText - length; n <= impl.MaxText-length+2; n++ {
				for _, r := range []int32{10, 97} {
					put := slices.Repeat([]int32{r}, n)
					got, code := impl.PieceInsert(pieces, off, put)
					gotLines, codeLines := impl.LineInsert(lines, off, put)
					what := fmt.Sprintf("%d runes %d at %d of %d", n, r, off, length)
					if length+n > impl.MaxText {
						wantNoPieces(t, what, got, code, impl.ErrFull)
						wantNoLines(t, what, gotLines, codeLines, impl.ErrFull)
						continue
					}
					wantPieces(t, what, got, code, modelPieceInsert(t, pieces, off, put))
					wantLines(t, what, gotLines, codeLines, modelLineInsert(lines, off, put))
				}
			}
			got, code := impl.PieceInsert(pieces, off, nil)
			wantPieces(t, "an empty text", got, code, pieces)
			gotLines, code := impl.LineInsert(lines, off, []int32{})
			wantLines(t, "an empty text", gotLines, code, lines)
		}
	}
}

// Promise 6: stores that come to MaxStore exactly and to one more. A full store can be read and deleted from.
func TestPiecesFullStore(t *testing.T) {
	for _, rest := range []int{0, 1, 5, 100} {
		store := countingStore(impl.MaxStore - rest)
		last := len(store)
		b := impl.PieceBuf{Store: store}
		for k, level := range evenShape(3) {
			off := []int{last - 30, 7, last - 10}[k]
			p := impl.Piece{Off: off, Len: 10, Breaks: breaksIn(store[off : off+10])}
			b.Tree.Items = append(b.Tree.Items, impl.Item{Piece: p, Level: level})
		}
		for _, off := range []int{0, 5, 10, 30} {
			for n := rest; n <= rest+2; n++ {
				put := slices.Repeat([]int32{10}, n)
				what := fmt.Sprintf("%d runes at %d, store of MaxStore less %d", n, off, rest)
				got, code := impl.PieceInsert(b, off, put)
				if n > rest {
					wantNoPieces(t, what, got, code, impl.ErrFull)
					continue
				}
				wantPieces(t, what, got, code, modelPieceInsert(t, b, off, put))
			}
			got, code := impl.PieceInsert(b, off, nil)
			wantPieces(t, "an empty text", got, code, b)
		}
		got, code := impl.PieceInsert(b, 31, make([]int32, rest+1))
		wantNoPieces(t, "outside and too long", got, code, impl.ErrRange)
		got, code = impl.PieceDelete(b, 5, 25)
		wantPieces(t, "deleting", got, code, modelPieceDelete(t, b, 5, 25))
		text, code := impl.PieceSlice(b, 5, 25)
		if code != impl.OK {
			t.Errorf("reading: code %d", code)
		}
		wantSame(t, "reading", text, piecedText(b)[5:25])
	}
}

// Promise 6: line buffers that meet the limits exactly are valid.
func TestLinesAtTheLimits(t *testing.T) {
	half := plainGap(make([]int32, impl.MaxText/2))
	less := plainGap(make([]int32, impl.MaxText/2-1))
	for name, b := range map[string]impl.LineBuf{
		"two rows of MaxText in all":  lineBuf([]int{0, impl.MaxText/2 + 1}, half, less),
		"one row of MaxText":          lineBuf([]int{0}, plainGap(make([]int32, impl.MaxText))),
		"MaxText breaks":              lineBuf([]int{0}, slices.Repeat([]impl.Gap{{}}, impl.MaxText+1)...),
		"MaxText breaks, some known":  lineBuf([]int{0, 1, 2, 3}, slices.Repeat([]impl.Gap{{}}, impl.MaxText+1)...),
		"rows of MaxCells cells":      lineBuf([]int{0}, gapAt(letters("abc"), 2, impl.MaxCells-3), gapAt(nil, 0, impl.MaxCells)),
		"a row of MaxText, MaxCells":  lineBuf([]int{0}, gapAt(make([]int32, impl.MaxText), 9, impl.MaxCells-impl.MaxText)),
		"an empty row without cells":  lineBuf([]int{0}, impl.Gap{}),
		"empty rows with known start": lineBuf([]int{0, 1}, impl.Gap{}, impl.Gap{}),
	} {
		if !modelLinesValid(b) {
			t.Fatalf("%s: the test's own buffer is not valid", name)
		}
		length := len(linedText(b))
		for _, pair := range [][2]int{{0, length}, {length / 2, length / 2}, {length / 3, length/2 + 1}, {length, length}} {
			lo, hi := pair[0], min(pair[1], length)
			got, code := impl.LineDelete(b, lo, hi)
			wantLines(t, fmt.Sprintf("%s, deleting %d to %d", name, lo, hi), got, code, modelLineDelete(b, lo, hi))
		}
		want := copyLines(b)
		modelFind(&want, length)
		got, _, _, code := impl.LineLineCol(b, length)
		wantLines(t, name+", place of the end", got, code, want)
	}
}

// Promise 6 with rule 4 of chapter 1: calls on piece buffers change no argument and share none with their answers, and
// no list of an answer shares memory with another one.
func TestPiecesShareNothing(t *testing.T) {
	for k, form := range pieceForms() {
		b, check := guardedPieces(t, form)
		length := len(piecedText(form))
		what := fmt.Sprintf("form %d", k)
		for off := -1; off <= length+1; off += 1 + length/9 {
			for _, list := range puts() {
				put, whole := spare(list, 77)
				before := slices.Clone(whole)
				got, _ := impl.PieceInsert(b, off, put)
				check(what + " behind inserting")
				scribblePieces(t, what, got)
				check(what + " behind writing into what inserting answered")
				wantSame(t, what+": the text behind all this", whole, before)
			}
			for hi := -1; hi <= length+1; hi += 1 + length/9 {
				got, _ := impl.PieceDelete(b, off, hi)
				check(what + " behind deleting")
				scribblePieces(t, what, got)
				text, _ := impl.PieceSlice(b, off, hi)
				overwrite(text)
				impl.PieceOffset(b, off, hi)
				impl.PieceLineCol(b, off)
				check(what + " behind writing into answers")
			}
		}
		// The store itself may be what is put in.
		got, code := impl.PieceInsert(b, length, b.Store)
		check(what + " behind inserting its own store")
		wantPieces(t, what+", its own store", got, code, modelPieceInsert(t, form, length, form.Store))
	}
}

// Promise 6 with rule 4 of chapter 1: the same for line buffers.
func TestLinesShareNothing(t *testing.T) {
	for k, form := range lineForms() {
		b, check := guardedLines(t, form)
		length := len(linedText(form))
		what := fmt.Sprintf("form %d", k)
		for off := -1; off <= length+1; off += 1 + length/9 {
			for _, list := range puts() {
				put, whole := spare(list, 77)
				before := slices.Clone(whole)
				got, _ := impl.LineInsert(b, off, put)
				check(what + " behind inserting")
				scribbleLines(t, what, got)
				check(what + " behind writing into what inserting answered")
				wantSame(t, what+": the text behind all this", whole, before)
			}
			for hi := -1; hi <= length+1; hi += 1 + length/9 {
				got, _ := impl.LineDelete(b, off, hi)
				check(what + " behind deleting")
				scribbleLines(t, what, got)
				got, _, _ = impl.LineOffset(b, off, hi)
				check(what + " behind an offset")
				scribbleLines(t, what, got)
				check(what + " behind writing into answers")
			}
			got, _, _, _ := impl.LineLineCol(b, off)
			check(what + " behind a place")
			scribbleLines(t, what, got)
			check(what + " behind writing into what a place answered")
		}
	}
	// Rows that share their cells in the argument are apart in the answer.
	row := cells("ab", 2, "c")
	got, code := impl.LineInsert(lineBuf([]int{0}, row, row, row), 4, letters("x"))
	wantLines(t, "rows that share", got, code, lineBuf([]int{0, 4}, cells("ab", 2, "c"), cells("x", 1, "abc"), cells("ab", 2, "c")))
	scribbleLines(t, "rows that share", got)
}

// Promise 6 with rule 4 of chapter 1: loading shares nothing with the text.
func TestLoadsShareNothing(t *testing.T) {
	for _, list := range append(texts(), countingStore(100), countingStore(impl.MaxText+1)) {
		text, whole := spare(list, 77)
		before := slices.Clone(whole)
		pieces, _ := impl.PieceLoad(text)
		lines, _ := impl.LineLoad(text)
		wantSame(t, "the text behind loading", whole, before)
		scribblePieces(t, "loaded", pieces)
		scribbleLines(t, "loaded", lines)
		wantSame(t, "the text behind writing into what was loaded", whole, before)
	}
}

// Promises 5 and 6: of all gap buffers of up to three cells, and of all line buffers of up to three of some rows, just the
// valid ones are taken.
func TestEveryFewCells(t *testing.T) {
	lists := [][]int32{nil}
	for k := 0; len(lists[k]) < 3; k++ {
		for _, r := range []int32{0, 1, 10} {
			lists = append(lists, append(slices.Clone(lists[k]), r))
		}
	}
	var some []impl.Gap
	for k, list := range lists {
		for lo := -1; lo <= len(list)+1; lo++ {
			for hi := -1; hi <= len(list)+1; hi++ {
				g := impl.Gap{Cells: list, Lo: lo, Hi: hi}
				got, code := impl.GapDelete(g, 0, 0)
				if modelGapValid(g) {
					wantGap(t, spellGap(g), got, code, modelGapDelete(g, 0, 0))
				} else {
					wantNoGap(t, spellGap(g), got, code, impl.ErrBad)
				}
				if k < 5 && lo+hi != 1 {
					some = append(some, g)
				}
			}
		}
	}
	rows := [][]impl.Gap{nil}
	for k := 0; len(rows[k]) < 2; k++ {
		for _, g := range some {
			rows = append(rows, append(slices.Clone(rows[k]), g))
		}
	}
	taken := 0
	for _, list := range rows {
		for _, starts := range [][]int{nil, {0}, {1}, {0, 1}, {0, 2}, {0, 3}, {0, 1, 2}} {
			b := lineBuf(starts, list...)
			got, code := impl.LineDelete(b, 0, 0)
			if modelLinesValid(b) {
				taken++
				wantLines(t, spellLines(b), got, code, b)
			} else {
				wantNoLines(t, spellLines(b), got, code, impl.ErrBad)
			}
		}
	}
	if taken == 0 {
		t.Error("no line buffer of few cells is valid")
	}
}
