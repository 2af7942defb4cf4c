package tests

import (
	"fmt"
	"testing"

	"loop.example/s01685/impl"
)

// place is line and column by chapter 1's second rule.
func place(text []int32, off int) (line, col int) {
	for _, r := range text[:off] {
		col++
		if r == 10 {
			line, col = line+1, 0
		}
	}
	return line, col
}

// wantPlaces holds both cores, of one text, against the text's places: all offsets there and back, all lines and columns
// there and back, and those outside.
func wantPlaces(t *testing.T, what string, pieces impl.PieceBuf, lines impl.LineBuf, text []int32) {
	t.Helper()
	for off := range len(text) + 1 {
		line, col := place(text, off)
		wantPlace(t, what, pieces, lines, off, line, col)
	}
	rows := linesOf(text)
	off := 0
	for line, row := range rows {
		for col := range len(row) + 1 {
			wantPlace(t, what, pieces, lines, off, line, col)
			off++
		}
		for _, col := range append([]int{-1, len(row) + 1}, extremes...) {
			wantNoPlace(t, what, pieces, lines, line, col)
		}
	}
	for _, line := range append([]int{-1, len(rows), len(rows) + 1}, extremes...) {
		for _, col := range append([]int{0, 1}, extremes...) {
			wantNoPlace(t, what, pieces, lines, line, col)
		}
	}
	for _, off := range append([]int{-1, len(text) + 1}, extremes...) {
		wantNoOffset(t, what, pieces, lines, off)
	}
}

func wantPlace(t *testing.T, what string, pieces impl.PieceBuf, lines impl.LineBuf, off, line, col int) {
	t.Helper()
	gotLine, gotCol, code := impl.PieceLineCol(pieces, off)
	if gotLine != line || gotCol != col || code != impl.OK {
		t.Errorf("%s, pieces, place of %d: %d, %d, code %d, want %d, %d", what, off, gotLine, gotCol, code, line, col)
	}
	gotOff, code := impl.PieceOffset(pieces, line, col)
	if gotOff != off || code != impl.OK {
		t.Errorf("%s, pieces, offset of %d, %d: %d, code %d, want %d", what, line, col, gotOff, code, off)
	}

	want := copyLines(lines)
	modelFind(&want, off)
	found, gotLine, gotCol, code := impl.LineLineCol(lines, off)
	wantLines(t, fmt.Sprintf("%s, lines, place of %d", what, off), found, code, want)
	if gotLine != line || gotCol != col {
		t.Errorf("%s, lines, place of %d: %d, %d, want %d, %d", what, off, gotLine, gotCol, line, col)
	}
	want = copyLines(lines)
	for len(want.Starts) < line+1 {
		modelLearn(&want)
	}
	found, gotOff, code = impl.LineOffset(lines, line, col)
	wantLines(t, fmt.Sprintf("%s, lines, offset of %d, %d", what, line, col), found, code, want)
	if gotOff != off {
		t.Errorf("%s, lines, offset of %d, %d: %d, want %d", what, line, col, gotOff, off)
	}
}

func wantNoPlace(t *testing.T, what string, pieces impl.PieceBuf, lines impl.LineBuf, line, col int) {
	t.Helper()
	what = fmt.Sprintf("%s, offset of %d, %d", what, line, col)
	off, code := impl.PieceOffset(pieces, line, col)
	if off != 0 || code != impl.ErrPlace {
		t.Errorf("%s, pieces: %d, code %d, want nothing and ErrPlace", what, off, code)
	}
	b, off, code := impl.LineOffset(lines, line, col)
	wantNoLines(t, what, b, code, impl.ErrPlace)
	if off != 0 {
		t.Errorf("%s, lines: code %d beside %d", what, code, off)
	}
}

func wantNoOffset(t *testing.T, what string, pieces impl.PieceBuf, lines impl.LineBuf, off int) {
	t.Helper()
	what = fmt.Sprintf("%s, place of %d", what, off)
	line, col, code := impl.PieceLineCol(pieces, off)
	if line != 0 || col != 0 || code != impl.ErrRange {
		t.Errorf("%s, pieces: %d, %d, code %d, want nothing and ErrRange", what, line, col, code)
	}
	b, line, col, code := impl.LineLineCol(lines, off)
	wantNoLines(t, what, b, code, impl.ErrRange)
	if line != 0 || col != 0 {
		t.Errorf("%s, lines: code %d beside %d, %d", what, code, line, col)
	}
}

// Promise 7: every piece form beside the lines of its text, and every line form beside the pieces of its.
func TestPlacesThereAndBack(t *testing.T) {
	for k, b := range pieceForms() {
		text := piecedText(b)
		wantPlaces(t, fmt.Sprintf("piece form %d", k), b, modelLineLoad(text), text)
	}
	for k, b := range lineForms() {
		text := linedText(b)
		wantPlaces(t, fmt.Sprintf("line form %d", k), modelPieceLoad(text), b, text)
	}
}

// Promise 7: both cores behind the same edits, and texts of MaxText runes at some places.
func TestPlacesBehindEdits(t *testing.T) {
	d := dice(77)
	pieces, lines := modelPieceLoad(nil), modelLineLoad(nil)
	for step := range 120 {
		length := len(linedText(lines))
		at := d.roll(length + 1)
		var code1, code2 int
		if d.roll(3) > 0 {
			put := puts()[d.roll(8)]
			pieces, code1 = impl.PieceInsert(pieces, at, put)
			lines, code2 = impl.LineInsert(lines, at, put)
		} else {
			hi := min(length, at+d.roll(6))
			pieces, code1 = impl.PieceDelete(pieces, at, hi)
			lines, code2 = impl.LineDelete(lines, at, hi)
		}
		if code1 != impl.OK || code2 != impl.OK {
			t.Fatalf("step %d: codes %d and %d", step, code1, code2)
		}
		text := linedText(lines)
		wantSame(t, fmt.Sprintf("step %d: texts", step), piecedText(pieces), text)
		if step%10 == 0 {
			wantPlaces(t, fmt.Sprintf("step %d", step), pieces, lines, text)
		}
	}
	for name, text := range map[string][]int32{
		"no breaks": make([]int32, impl.MaxText), "some breaks": countingStore(impl.MaxText), "breaks only": manyBreaks(impl.MaxText)} {
		pieces, lines := modelPieceLoad(text), modelLineLoad(text)
		whole := pieceWhole(text)
		for _, off := range []int{0, 1, 11, 4095, 4096, impl.MaxText - 1, impl.MaxText} {
			line, col := place(text, off)
			wantPlace(t, name, pieces, lines, off, line, col)
			wantPlace(t, name+" in one piece", whole, lines, off, line, col)
		}
		wantNoOffset(t, name, pieces, lines, impl.MaxText+1)
		wantNoPlace(t, name, pieces, lines, breaksIn(text)+1, 0)
	}
}

func manyBreaks(length int) []int32 {
	text := make([]int32, length)
	for k := range text {
		text[k] = 10
	}
	return text
}

// pieceWhole is a text as one piece.
func pieceWhole(text []int32) impl.PieceBuf {
	p := impl.Piece{Len: len(text), Breaks: breaksIn(text)}
	return impl.PieceBuf{Store: text, Tree: impl.Tree{Items: []impl.Item{{Piece: p}}}}
}
