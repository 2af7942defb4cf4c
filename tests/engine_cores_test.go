package tests

import (
	"testing"

	"loop.example/s01685/impl"
)

// Promise 11: the piece buffer at the end of runs whose calls to it are known. What is put in again by undoing and doing
// again stands in the store in the order in which it was.
func TestRunPieceFinal(t *testing.T) {
	twice := []impl.Op{opInsert(0, "abc"), opInsert(3, "d")}
	apart := []impl.Op{opInsert(0, "abc"), opBegin(), opDelete(0, 1), opDelete(0, 1), opEnd()}
	ahead := []impl.Op{opBegin(), opInsert(0, "a"), opInsert(0, "b"), opEnd()}
	twenty := []impl.Op{opInsert(0, "abcdefghijklmnopqrst"), opSnap(3), opDelete(5, 15)}
	for _, c := range []struct {
		name         string
		script       []impl.Op
		more         []impl.Op
		store, items string
	}{
		{"nothing", nil, nil, "", ""},
		{"one piece made longer", twice, nil, "abcd", "0+4:0"},
		{"what doesn't touch it", twice, []impl.Op{opSlice(1, 3), opLineCol(2), opOffset(0, 1), opMark(1, 2, 0), opLook(1), opSnap(0), opMove(1), opDump(),
			opInsert(2, ""), opDelete(2, 2), opInsert(5, "x"), opDelete(2, 1), opRedo(), opBack(5), opBegin(), opEnd(), opDrop(1)}, "abcd", "0+4:0"},
		{"undone", twice, []impl.Op{opUndo()}, "abcd", "0+3:0"},
		{"undone and done again", twice, []impl.Op{opUndo(), opRedo()}, "abcdd", "0+3:0 4+1:1"},
		{"all undone", twice, []impl.Op{opUndo(), opUndo()}, "abcd", ""},
		{"two deletions", apart, nil, "abc", "2+1:0"},
		{"two deletions undone, the last one first", apart, []impl.Op{opUndo()}, "abcba", "4+1:1 3+1:0 2+1:1"},
		{"two deletions done again", apart, []impl.Op{opUndo(), opRedo()}, "abcba", "2+1:0"},
		{"two insertions", ahead, nil, "ab", "1+1:1 0+1:0"},
		{"two insertions undone", ahead, []impl.Op{opUndo()}, "ab", ""},
		{"two insertions done again, the first one first", ahead, []impl.Op{opUndo(), opRedo()}, "abab", "3+1:1 2+1:0"},
		{"a deletion healed by undoing an insertion", twenty, []impl.Op{opUndo(), opInsert(7, "-"), opUndo()}, "abcdefghijklmnopqrstfghijklmno-",
			"0+5:1 20+10:0 15+5:1"},
		{"a snapshot loaded", twenty, []impl.Op{opBack(3)}, "abcdefghijklmnopqrst", "0+16:1 16+4:0"},
		{"a snapshot loaded and its last piece made longer", twenty, []impl.Op{opBack(3), opInsert(20, "u")}, "abcdefghijklmnopqrstu", "0+16:1 16+5:0"},
		{"a snapshot loaded and its edit undone", twenty, []impl.Op{opBack(3), opUndo()}, "abcdefghijklmnopqrst", ""},
	} {
		script := append(append([]impl.Op{}, c.script...), c.more...)
		out := impl.RunPiece(script, 9)
		wantPieces(t, c.name, out.Final, out.Code, pieceBuf(t, c.store, c.items))
		wantRuns(t, c.name, script, 9)
	}
}

// Promise 11: the line buffer at the end of runs whose calls to it are known.
func TestRunLineFinal(t *testing.T) {
	four := opInsert(0, "a\nb\nc\nd")
	plain := func(s string) impl.Gap { return cells(s, 0, "") }
	for _, c := range []struct {
		name string
		more []impl.Op
		want impl.LineBuf
	}{
		{"undone", []impl.Op{opUndo()}, lineBuf([]int{0}, cells("", 16, ""))},
		{"undone and done again", []impl.Op{opUndo(), opRedo()}, lineBuf([]int{0}, cells("a", 15, ""), plain("b"), plain("c"), plain("d"))},
		{"an edit in a row", []impl.Op{opLineCol(7), opInsert(3, "x")},
			lineBuf([]int{0, 2}, cells("a", 15, ""), cells("bx", 14, ""), plain("c"), plain("d"))},
		{"an edit in a row undone", []impl.Op{opInsert(3, "x"), opLineCol(7), opUndo()},
			lineBuf([]int{0, 2}, cells("a", 15, ""), cells("b", 15, ""), plain("c"), plain("d"))},
		{"rows joined", []impl.Op{opDelete(1, 4)}, lineBuf([]int{0}, cells("ac", 14, ""), plain("d"))},
		{"rows joined and undone", []impl.Op{opDelete(1, 4), opUndo()}, lineBuf([]int{0}, cells("a", 15, ""), plain("b"), plain("c"), plain("d"))},
		{"a snapshot loaded", []impl.Op{opLineCol(7), opSnap(0), opBack(0)}, lineBuf([]int{0}, plain("a"), plain("b"), plain("c"), plain("d"))},
		{"two deletions undone, the last one first", []impl.Op{opBegin(), opDelete(6, 7), opDelete(2, 3), opEnd(), opUndo()},
			lineBuf([]int{0, 2, 4, 6}, cells("a", 15, ""), plain("b"), plain("c"), plain("d"))},
	} {
		script := append([]impl.Op{four}, c.more...)
		out := impl.RunLine(script, 9)
		wantLines(t, c.name, out.Final, out.Code, c.want)
		wantRuns(t, c.name, script, 9)
	}
	out := impl.RunLine(nil, 9)
	wantLines(t, "nothing", out.Final, out.Code, lineBuf([]int{0}, impl.Gap{}))
}

// Promise 11: which operations make Starts longer, and by how much; and which leave it alone.
func TestRunLineStarts(t *testing.T) {
	for _, c := range []struct {
		name string
		more []impl.Op
		want []int
	}{
		{"nothing", nil, []int{0}},
		{"LineCol of the start", []impl.Op{opLineCol(0)}, []int{0, 2}},
		{"LineCol in the first line", []impl.Op{opLineCol(1)}, []int{0, 2}},
		{"LineCol of the second line", []impl.Op{opLineCol(2)}, []int{0, 2, 4}},
		{"LineCol of the end", []impl.Op{opLineCol(7)}, []int{0, 2, 4, 6}},
		{"LineCol of less than is known", []impl.Op{opLineCol(2), opLineCol(0)}, []int{0, 2, 4}},
		{"LineCol refused", []impl.Op{opLineCol(8)}, []int{0}},
		{"a Slice finds its lo, not its hi", []impl.Op{opSlice(0, 7)}, []int{0, 2}},
		{"a Slice in the middle", []impl.Op{opSlice(3, 4)}, []int{0, 2, 4}},
		{"a Slice of nothing", []impl.Op{opSlice(2, 2)}, []int{0, 2, 4}},
		{"a Slice of nothing at the end", []impl.Op{opSlice(7, 7)}, []int{0, 2, 4, 6}},
		{"a Slice refused", []impl.Op{opSlice(3, 2)}, []int{0}},
		{"Offset of the first line", []impl.Op{opOffset(0, 1)}, []int{0}},
		{"Offset of the second line", []impl.Op{opOffset(1, 0)}, []int{0, 2}},
		{"Offset of the last line", []impl.Op{opOffset(3, 1)}, []int{0, 2, 4, 6}},
		{"Offset refused by its column", []impl.Op{opOffset(2, 2)}, []int{0}},
		{"Offset refused by its line", []impl.Op{opOffset(4, 0)}, []int{0}},
		{"what doesn't touch it", []impl.Op{opDump(), opMark(1, 7, 0), opLook(1), opDrop(1), opSnap(2), opMove(1), opBegin(), opEnd()}, []int{0}},
		{"nothing put in, nothing taken out", []impl.Op{opInsert(2, ""), opDelete(3, 3)}, []int{0}},
		{"nothing put in, nothing taken out, all known", []impl.Op{opLineCol(7), opInsert(2, ""), opDelete(3, 3), opDump(), opRedo()}, []int{0, 2, 4, 6}},
		{"an edit in the first line", []impl.Op{opLineCol(7), opInsert(0, "x")}, []int{0}},
		{"an edit in the third line", []impl.Op{opInsert(4, "x")}, []int{0, 2, 4}},
		{"an edit in the third line undone", []impl.Op{opInsert(4, "x"), opUndo()}, []int{0, 2, 4}},
		{"a deletion up to the end", []impl.Op{opDelete(3, 7)}, []int{0, 2}},
		{"a deletion undone", []impl.Op{opDelete(3, 7), opUndo()}, []int{0, 2}},
		{"a snapshot loaded", []impl.Op{opLineCol(7), opSnap(2), opBack(2)}, []int{0}},
		{"a snapshot loaded, then a Slice", []impl.Op{opLineCol(7), opSnap(2), opBack(2), opSlice(4, 5)}, []int{0, 2, 4, 6}},
	} {
		script := append([]impl.Op{opInsert(0, "a\nb\nc\nd")}, c.more...)
		wantSame(t, c.name, impl.RunLine(script, 9).Final.Starts, c.want)
		wantRuns(t, c.name, script, 9)
	}
}
