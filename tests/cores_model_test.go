package tests

import (
	"fmt"
	"slices"
	"strconv"
	"strings"
	"testing"

	"loop.example/s01685/impl"
)

// pieceBuf reads a piece buffer: its store, and each piece as offset+length:level. Breaks are counted in the store.
func pieceBuf(t *testing.T, store, items string) impl.PieceBuf {
	t.Helper()
	b := impl.PieceBuf{Store: letters(store)}
	for word := range strings.FieldsSeq(items) {
		span, level, _ := strings.Cut(word, ":")
		off, length, _ := strings.Cut(span, "+")
		var n [3]int
		for k, s := range []string{off, length, level} {
			var err error
			if n[k], err = strconv.Atoi(s); err != nil {
				t.Fatalf("the test's own pieces can't be read: %q", items)
			}
		}
		p := impl.Piece{Off: n[0], Len: n[1], Breaks: breaksIn(b.Store[n[0] : n[0]+n[1]])}
		b.Tree.Items = append(b.Tree.Items, impl.Item{Piece: p, Level: n[2]})
	}
	return b
}

// piecedText is the text of a piece buffer.
func piecedText(b impl.PieceBuf) []int32 {
	var text []int32
	for _, it := range b.Tree.Items {
		text = append(text, b.Store[it.Piece.Off:it.Piece.Off+it.Piece.Len]...)
	}
	return text
}

// modelPieceLoad cuts the text and looks for the middle of each stretch.
func modelPieceLoad(text []int32) impl.PieceBuf {
	b := impl.PieceBuf{Store: text}
	count := (len(text) + 15) / 16
	for k, level := range evenShape(count) {
		span := text[16*k : min(16*k+16, len(text))]
		b.Tree.Items = append(b.Tree.Items, impl.Item{Piece: impl.Piece{Off: 16 * k, Len: len(span), Breaks: breaksIn(span)}, Level: level})
	}
	return b
}

// modelPieceInsert follows chapter 5 word by word over the model's tree.
func modelPieceInsert(t *testing.T, b impl.PieceBuf, off int, text []int32) impl.PieceBuf {
	t.Helper()
	if len(text) == 0 {
		return b
	}
	root, s := modelOf(t, b.Tree), len(b.Store)
	store := slices.Concat(b.Store, text)
	fresh := impl.Piece{Off: s, Len: len(text), Breaks: breaksIn(text)}
	start := 0
	for _, n := range root.list() {
		end := start + n.piece.Len
		if end == off && n.piece.Off+n.piece.Len == s {
			n.piece.Len += fresh.Len
			n.piece.Breaks += fresh.Breaks
			return impl.PieceBuf{Store: store, Tree: root.tree()}
		}
		start = end
	}
	root = modelCut(root, store, off)
	root = modelInsert(root, modelRankAt(root, off), fresh)
	return impl.PieceBuf{Store: store, Tree: root.tree()}
}

// modelCut cuts the piece that an offset lies strictly inside of, if there is one.
func modelCut(root *modelNode, store []int32, off int) *modelNode {
	start := 0
	for rank, n := range root.list() {
		end := start + n.piece.Len
		if start < off && off < end {
			mid, last := n.piece.Off+off-start, n.piece.Off+n.piece.Len
			n.piece.Len, n.piece.Breaks = off-start, breaksIn(store[n.piece.Off:mid])
			return modelInsert(root, rank+1, impl.Piece{Off: mid, Len: last - mid, Breaks: breaksIn(store[mid:last])})
		}
		start = end
	}
	return root
}

// modelRankAt is the rank of the piece that starts at an offset, or the number of pieces.
func modelRankAt(root *modelNode, off int) int {
	start := 0
	list := root.list()
	for rank, n := range list {
		if start == off {
			return rank
		}
		start += n.piece.Len
	}
	return len(list)
}

func modelPieceDelete(t *testing.T, b impl.PieceBuf, lo, hi int) impl.PieceBuf {
	t.Helper()
	if lo == hi {
		return b
	}
	root := modelCut(modelOf(t, b.Tree), b.Store, lo)
	root = modelCut(root, b.Store, hi)
	a, z := modelRankAt(root, lo), modelRankAt(root, hi)
	x, y := modelSplit(root, a)
	_, w := modelSplit(y, z-a)
	root = modelJoin(x, w)
	if list := root.list(); a > 0 && a < len(list) {
		first, second := list[a-1], list[a]
		if first.piece.Off+first.piece.Len == second.piece.Off {
			first.piece.Len += second.piece.Len
			first.piece.Breaks += second.piece.Breaks
			root = modelDelete(root, a)
		}
	}
	return impl.PieceBuf{Store: b.Store, Tree: root.tree()}
}

func modelPiecesValid(b impl.PieceBuf) bool {
	if len(b.Store) > 220000 || !modelValid(b.Tree) {
		return false
	}
	for _, it := range b.Tree.Items {
		p := it.Piece
		if p.Off+p.Len > len(b.Store) || p.Breaks != breaksIn(b.Store[p.Off:p.Off+p.Len]) {
			return false
		}
	}
	return true
}

// wantPieces asks for code 0 and for this store and these items, and that they be valid.
func wantPieces(t *testing.T, what string, got impl.PieceBuf, code int, want impl.PieceBuf) {
	t.Helper()
	if code != impl.OK {
		t.Errorf("%s: code %d", what, code)
		return
	}
	wantSame(t, what+": store", got.Store, want.Store)
	wantShape(t, what, got.Tree, want.Tree)
	if !modelPiecesValid(got) {
		t.Errorf("%s: %s is not valid", what, spell(got.Tree))
	}
}

// wantNoPieces asks for a code and nothing else.
func wantNoPieces(t *testing.T, what string, got impl.PieceBuf, code, want int) {
	t.Helper()
	if code != want || len(got.Store) != 0 || len(got.Tree.Items) != 0 {
		t.Errorf("%s: %d runes, %s, code %d, want nothing and %d", what, len(got.Store), spell(got.Tree), code, want)
	}
}

// lineBuf puts rows under an index of starts.
func lineBuf(starts []int, rows ...impl.Gap) impl.LineBuf {
	return impl.LineBuf{Rows: rows, Starts: starts}
}

// copyLines copies a line buffer with all that is in it.
func copyLines(b impl.LineBuf) impl.LineBuf {
	c := impl.LineBuf{Starts: slices.Clone(b.Starts)}
	for _, g := range b.Rows {
		c.Rows = append(c.Rows, impl.Gap{Cells: slices.Clone(g.Cells), Lo: g.Lo, Hi: g.Hi})
	}
	return c
}

// linedText is the text of a line buffer.
func linedText(b impl.LineBuf) []int32 {
	var text []int32
	for k, g := range b.Rows {
		if k > 0 {
			text = append(text, 10)
		}
		text = append(text, gapText(g)...)
	}
	return text
}

// linesOf cuts a text at its breaks.
func linesOf(text []int32) [][]int32 {
	lines := [][]int32{nil}
	for _, r := range text {
		if r == 10 {
			lines = append(lines, nil)
		} else {
			lines[len(lines)-1] = append(lines[len(lines)-1], r)
		}
	}
	return lines
}

func modelLineLoad(text []int32) impl.LineBuf {
	b := impl.LineBuf{Starts: []int{0}}
	for _, line := range linesOf(text) {
		b.Rows = append(b.Rows, plainGap(line))
	}
	return b
}

// modelLearn puts the next row's start behind Starts.
func modelLearn(b *impl.LineBuf) {
	k := len(b.Starts) - 1
	b.Starts = append(b.Starts, b.Starts[k]+len(gapText(b.Rows[k]))+1)
}

// modelFind is chapter 5's finding of an offset, word by word.
func modelFind(b *impl.LineBuf, off int) (line, col int) {
	for len(b.Starts) < len(b.Rows) && b.Starts[len(b.Starts)-1] <= off {
		modelLearn(b)
	}
	for k, start := range b.Starts {
		if start <= off {
			line = k
		}
	}
	return line, off - b.Starts[line]
}

func modelLineInsert(in impl.LineBuf, off int, text []int32) impl.LineBuf {
	b := copyLines(in)
	if len(text) == 0 {
		return b
	}
	line, col := modelFind(&b, off)
	parts := linesOf(text)
	if len(parts) == 1 {
		b.Rows[line] = modelGapInsert(b.Rows[line], col, text)
	} else {
		length := len(gapText(b.Rows[line]))
		tail := gapText(b.Rows[line])[col:]
		b.Rows[line] = modelGapInsert(modelGapDelete(b.Rows[line], col, length), col, parts[0])
		var fresh []impl.Gap
		for k, part := range parts[1:] {
			if k+2 == len(parts) {
				part = slices.Concat(part, tail)
			}
			fresh = append(fresh, plainGap(part))
		}
		b.Rows = slices.Insert(b.Rows, line+1, fresh...)
	}
	b.Starts = b.Starts[:line+1]
	return b
}

func modelLineDelete(in impl.LineBuf, lo, hi int) impl.LineBuf {
	b := copyLines(in)
	if lo == hi {
		return b
	}
	line, col := modelFind(&b, lo)
	line2, col2 := modelFind(&b, hi)
	if line == line2 {
		b.Rows[line] = modelGapDelete(b.Rows[line], col, col2)
	} else {
		tail := gapText(b.Rows[line2])[col2:]
		length := len(gapText(b.Rows[line]))
		b.Rows[line] = modelGapInsert(modelGapDelete(b.Rows[line], col, length), col, tail)
		b.Rows = slices.Delete(b.Rows, line+1, line2+1)
	}
	b.Starts = b.Starts[:line+1]
	return b
}

func modelLinesValid(b impl.LineBuf) bool {
	if len(b.Rows) == 0 || len(b.Starts) == 0 || len(b.Starts) > len(b.Rows) {
		return false
	}
	for _, g := range b.Rows {
		if !modelGapValid(g) || breaksIn(gapText(g)) > 0 {
			return false
		}
	}
	at := 0
	for k, start := range b.Starts {
		if start != at {
			return false
		}
		at += len(gapText(b.Rows[k])) + 1
	}
	return len(linedText(b)) <= 8192
}

func spellLines(b impl.LineBuf) string {
	rows := ""
	for k, g := range b.Rows[:min(len(b.Rows), 12)] {
		if k > 0 {
			rows += "; "
		}
		rows += spellGap(g)
	}
	return fmt.Sprintf("%d rows [%s], starts %v", len(b.Rows), rows, short(b.Starts))
}

func sameLines(a, b impl.LineBuf) bool {
	return slices.EqualFunc(a.Rows, b.Rows, sameGap) && slices.Equal(a.Starts, b.Starts)
}

// wantLines asks for code 0 and for these rows and starts, and that they be valid.
func wantLines(t *testing.T, what string, got impl.LineBuf, code int, want impl.LineBuf) {
	t.Helper()
	if code != impl.OK || !sameLines(got, want) {
		t.Errorf("%s: %s, code %d, want %s", what, spellLines(got), code, spellLines(want))
		return
	}
	if !modelLinesValid(got) {
		t.Errorf("%s: %s is not valid", what, spellLines(got))
	}
}

// wantNoLines asks for a code and nothing else.
func wantNoLines(t *testing.T, what string, got impl.LineBuf, code, want int) {
	t.Helper()
	if code != want || len(got.Rows) != 0 || len(got.Starts) != 0 {
		t.Errorf("%s: %s, code %d, want nothing and %d", what, spellLines(got), code, want)
	}
}
