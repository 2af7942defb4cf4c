package tests

import (
	"slices"
	"testing"

	"loop.example/s01685/impl"
)

// texts are of many forms: with no break, with breaks at both ends, one behind another and alone.
func texts() [][]int32 {
	list := [][]int32{nil, {0}, {10}, {-5, 1114112}, {10, 10, 10, 10}}
	for _, s := range []string{"a", "ab", "a\nb", "\na", "a\n", "\n\na", "a\n\nb", "\nabc\n", "ab\ncd\nef", "abc\n\n\ndefg\nh\n",
		"0123456789abcdef", "0123456789abcde\n", "0123456789abcdef\n", "\n0123456789abcdefghi\njkl\n\n0123456789abcdef0123456789"} {
		list = append(list, letters(s))
	}
	return list
}

// puts are texts to put in.
func puts() [][]int32 {
	return [][]int32{nil, letters("x"), letters("\n"), letters("xyz"), letters("x\ny"), letters("\n\n"), letters("xy\n\nz\n"), {-7, 10, 0}}
}

// pieceForms are valid piece buffers: loaded texts, and trees of many shapes over spans of a store that stand apart, meet
// one another, overlap, are the same, stand in any order and end at the store's end.
func pieceForms() []impl.PieceBuf {
	var forms []impl.PieceBuf
	for _, text := range texts() {
		forms = append(forms, modelPieceLoad(text))
	}
	shapes := append(shapesUpTo(3), shapesOf(4)[7], sparseShape(5, true), sparseShape(5, false))
	for k, levels := range shapes {
		forms = append(forms, pieceForm(levels, k), inARow(levels))
	}
	forms = append(forms, impl.PieceBuf{Store: letters("a store\nwithout pieces")})
	return forms
}

// pieceForm puts spans, taken as the dice fall, on the levels of a tree.
func pieceForm(levels []int, seed int) impl.PieceBuf {
	d := dice(seed)
	b := impl.PieceBuf{Store: countingStore(24)}
	last := 0
	for _, level := range levels {
		off, length := d.roll(20), 1+d.roll(4)
		switch d.roll(4) {
		case 0:
			off = min(last, 20)
		case 1:
			off = len(b.Store) - length
		}
		last = off + length
		p := impl.Piece{Off: off, Len: length, Breaks: breaksIn(b.Store[off:last])}
		b.Tree.Items = append(b.Tree.Items, impl.Item{Piece: p, Level: level})
	}
	return b
}

// inARow puts pieces that all meet on the levels of a tree, the last one at the store's end.
func inARow(levels []int) impl.PieceBuf {
	b := impl.PieceBuf{}
	for k, level := range levels {
		span := countingStore(12)[9-k%4 : 12-k%3]
		p := impl.Piece{Off: len(b.Store), Len: len(span), Breaks: breaksIn(span)}
		b.Store = append(b.Store, span...)
		b.Tree.Items = append(b.Tree.Items, impl.Item{Piece: p, Level: level})
	}
	return b
}

// lineForms are valid line buffers: each text with the gaps at several places and of several sizes, and with all numbers
// of known rows.
func lineForms() []impl.LineBuf {
	var forms []impl.LineBuf
	for number, text := range texts() {
		d := dice(number)
		lines := linesOf(text)
		for known := 1; known <= len(lines); known++ {
			b := impl.LineBuf{Starts: []int{0}}
			for _, line := range lines {
				b.Rows = append(b.Rows, gapAt(line, d.roll(len(line)+1), []int{0, 1, 3, 20}[d.roll(4)]))
			}
			for len(b.Starts) < known {
				modelLearn(&b)
			}
			forms = append(forms, b, impl.LineBuf{Rows: modelLineLoad(text).Rows, Starts: slices.Clone(b.Starts)})
		}
	}
	return forms
}

// The tests lean on these forms, so they are held against the rules themselves.
func TestFormsAreValid(t *testing.T) {
	for k, b := range pieceForms() {
		if !modelPiecesValid(b) {
			t.Errorf("piece form %d isn't valid: %s", k, spell(b.Tree))
		}
	}
	for k, b := range lineForms() {
		if !modelLinesValid(b) {
			t.Errorf("line form %d isn't valid: %s", k, spellLines(b))
		}
	}
}

// guardedPieces is a piece buffer whose lists have room behind their ends, and a check that none has been written to.
func guardedPieces(t *testing.T, b impl.PieceBuf) (impl.PieceBuf, func(what string)) {
	store, whole := spare(b.Store, 77)
	before := slices.Clone(whole)
	tree, check := guarded(t, b.Tree)
	return impl.PieceBuf{Store: store, Tree: tree}, func(what string) {
		t.Helper()
		wantSame(t, what+": store", whole, before)
		check(what)
	}
}

// guardedLines is the same for a line buffer.
func guardedLines(t *testing.T, b impl.LineBuf) (impl.LineBuf, func(what string)) {
	var checks []func(string)
	in := impl.LineBuf{}
	for _, g := range b.Rows {
		row, check := guardedGap(t, g)
		in.Rows, checks = append(in.Rows, row), append(checks, check)
	}
	rows, wholeRows := spare(in.Rows, cells("guard", 0, ""))
	starts, wholeStarts := spare(b.Starts, 77)
	startsBefore := slices.Clone(wholeStarts)
	return impl.LineBuf{Rows: rows, Starts: starts}, func(what string) {
		t.Helper()
		for _, check := range checks {
			check(what)
		}
		wantSame(t, what+": starts", wholeStarts, startsBefore)
		for k, g := range wholeRows {
			want := cells("guard", 0, "")
			if k < len(b.Rows) {
				want = b.Rows[k]
			}
			if !sameGap(g, want) {
				t.Errorf("%s: row %d is %s, was %s", what, k, spellGap(g), spellGap(want))
			}
		}
	}
}

// scribblePieces writes over an answer, one list behind the other, and asks that no list changes another one.
func scribblePieces(t *testing.T, what string, b impl.PieceBuf) {
	t.Helper()
	items := slices.Clone(b.Tree.Items)
	overwrite(b.Store)
	wantSame(t, what+": items behind writing into the store", b.Tree.Items, items)
	store := slices.Clone(b.Store)
	scribble(b.Tree)
	wantSame(t, what+": store behind writing into the items", b.Store, store)
}

// scribbleLines is the same for a line buffer: what is in the room behind a row's cells belongs to no other row.
func scribbleLines(t *testing.T, what string, b impl.LineBuf) {
	t.Helper()
	want := copyLines(b)
	for k := range b.Rows {
		overwrite(b.Rows[k].Cells)
		for j := range want.Rows[k].Cells {
			want.Rows[k].Cells[j] = ^want.Rows[k].Cells[j]
		}
		if !sameLines(b, want) {
			t.Errorf("%s: writing into row %d changes another list", what, k)
			return
		}
	}
	starts := b.Starts[:cap(b.Starts)]
	for k := range starts {
		starts[k] = -77
	}
	rows := b.Rows[:cap(b.Rows)]
	for k := range rows {
		rows[k] = impl.Gap{Lo: -77}
	}
}
