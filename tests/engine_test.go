package tests

import (
	"fmt"
	"slices"
	"testing"

	"loop.example/s01685/impl"
)

// Chapter 7: the numbers of the kinds.
func TestKinds(t *testing.T) {
	for k, kind := range []int{impl.OpInsert, impl.OpDelete, impl.OpSlice, impl.OpLineCol, impl.OpOffset, impl.OpMark, impl.OpDrop, impl.OpLook,
		impl.OpUndo, impl.OpRedo, impl.OpBegin, impl.OpEnd, impl.OpSnap, impl.OpBack, impl.OpMove, impl.OpDump} {
		if kind != k+1 {
			t.Errorf("kind number %d is %d", k+1, kind)
		}
	}
}

// Promise 11: what each kind answers, by hand.
func TestRunsByHand(t *testing.T) {
	wantSteps(t, "no text", 5, []stepSeen{
		{opDump(), "0 0 0, 0 1 0 0 0"},
		{opInsert(0, ""), "0 0 0, 0 1 0 0 0"},
		{opInsert(1, ""), "2 0 0, 0 1 0 0 0"},
		{opInsert(-1, ""), "2 0 0, 0 1 0 0 0"},
		{opDelete(0, 0), "0 0 0, 0 1 0 0 0"},
		{opDelete(0, 1), "2 0 0, 0 1 0 0 0"},
		{opSlice(0, 0), "0 0 0, 0 1 0 0 0"},
		{opSlice(1, 1), "2 0 0, 0 1 0 0 0"},
		{opLineCol(0), "0 0 0, 0 1 0 0 0"},
		{opLineCol(1), "2 0 0, 0 1 0 0 0"},
		{opOffset(0, 0), "0 0 0, 0 1 0 0 0"},
		{opOffset(0, 1), "3 0 0, 0 1 0 0 0"},
		{opOffset(1, 0), "3 0 0, 0 1 0 0 0"},
		{opMark(4, 0, 1), "0 0 0, 0 1 0 0 0"},
		{opMark(5, 1, 1), "2 0 0, 0 1 0 0 0"},
		{opLook(4), "0 0 1, 0 1 0 0 0"},
		{opUndo(), "6 0 0, 0 1 0 0 0"},
		{opRedo(), "6 0 0, 0 1 0 0 0"},
		{opSnap(0), "0 0 0, 0 1 0 0 0"},
		{opDrop(4), "0 0 0, 0 1 0 0 0"},
		{opBack(0), "0 0 0, 0 1 0 0 0"},
		{opDump(), "0 0 0, 0 1 0 0 0 4@0R"},
	})
	wantSteps(t, "text and places", 5, []stepSeen{
		{opInsert(0, "ab\ncd"), "0 5 0, 5 2 1 0 0"},
		{opSlice(1, 4), "0 0 0, 5 2 1 0 0 :b\nc"},
		{opSlice(4, 4), "0 0 0, 5 2 1 0 0"},
		{opSlice(4, 3), "2 0 0, 5 2 1 0 0"},
		{opLineCol(2), "0 0 2, 5 2 1 0 0"},
		{opLineCol(3), "0 1 0, 5 2 1 0 0"},
		{opLineCol(5), "0 1 2, 5 2 1 0 0"},
		{opOffset(0, 2), "0 2 0, 5 2 1 0 0"},
		{opOffset(0, 3), "3 0 0, 5 2 1 0 0"},
		{opOffset(1, 2), "0 5 0, 5 2 1 0 0"},
		{opOffset(2, 0), "3 0 0, 5 2 1 0 0"},
		{opInsert(5, "\xff\xc3\xa9\xe2\x82"), "0 3 0, 8 2 2 0 0"},
		{opSlice(5, 8), "0 0 0, 8 2 2 0 0 :\ufffd\u00e9\ufffd"},
		{opDelete(1, 6), "0 5 0, 3 1 3 0 0"},
		{opDump(), "0 0 0, 3 1 3 0 0 :a\u00e9\ufffd"},
		{opUndo(), "0 1 0, 8 2 2 1 0"},
		{opUndo(), "0 1 0, 5 2 1 2 0"},
		{opDump(), "0 0 0, 5 2 1 2 0 :ab\ncd"},
		{opRedo(), "0 1 0, 8 2 2 1 0"},
		{opInsert(0, "\n\n"), "0 2 0, 10 4 3 0 0"},
		{opMove(0), "0 0 0, 10 4 3 0 0"},
		{opMove(77), "0 0 0, 10 4 3 0 0"},
		{impl.Op{Kind: 17}, "13 0 0, 10 4 3 0 0"},
		{opDump(), "0 0 0, 10 4 3 0 0 :\n\nab\ncd\ufffd\u00e9\ufffd"},
	})
}

// Promise 11: marks in a run, by hand.
func TestRunMarksByHand(t *testing.T) {
	wantSteps(t, "marks", 5, []stepSeen{
		{opInsert(0, "abcdef"), "0 6 0, 6 1 1 0 0"},
		{opMark(9, 3, 0), "0 0 0, 6 1 1 0 0"},
		{opMark(-4, 3, 1), "0 0 0, 6 1 1 0 0"},
		{opMark(7, 3, 1), "0 0 0, 6 1 1 0 0"},
		{opMark(7, 3, 1), "5 0 0, 6 1 1 0 0"},
		{opMark(8, 7, 0), "2 0 0, 6 1 1 0 0"},
		{opMark(8, 6, 2), "12 0 0, 6 1 1 0 0"},
		{opMark(impl.MaxId+1, 6, 1), "12 0 0, 6 1 1 0 0"},
		{opMark(impl.MaxId, 6, 1), "0 0 0, 6 1 1 0 0"},
		{opLook(7), "0 3 1, 6 1 1 0 0"},
		{opLook(8), "4 0 0, 6 1 1 0 0"},
		{opDump(), "0 0 0, 6 1 1 0 0 :abcdef -4@3R 7@3R 9@3L 1000000000@6R"},
		{opInsert(3, "xy"), "0 2 0, 8 1 2 0 0"},
		{opDump(), "0 0 0, 8 1 2 0 0 :abcxydef 9@3L -4@5R 7@5R 1000000000@8R"},
		{opDrop(-4), "0 5 0, 8 1 2 0 0"},
		{opDrop(-4), "4 0 0, 8 1 2 0 0"},
		{opDelete(2, 7), "0 5 0, 3 1 3 0 0"},
		{opDump(), "0 0 0, 3 1 3 0 0 :abf 7@2R 9@2L 1000000000@3R"},
		{opUndo(), "0 1 0, 8 1 2 1 0"},
		{opDump(), "0 0 0, 8 1 2 1 0 :abcxydef 9@3L 7@5R 1000000000@8R"},
		{opMark(1, 8, 0), "0 0 0, 8 1 2 1 0"},
		{opDrop(7), "0 5 0, 8 1 2 1 0"},
		{opRedo(), "0 1 0, 3 1 3 0 0"},
		{opDump(), "0 0 0, 3 1 3 0 0 :abf 9@2L 1@3L 1000000000@3R"},
	})
}

// Promise 11: groups, by hand: an empty one leaves no trace, an edit in an open one empties the redo stack.
func TestRunGroupsByHand(t *testing.T) {
	wantSteps(t, "groups", 5, []stepSeen{
		{opEnd(), "8 0 0, 0 1 0 0 0"},
		{opBegin(), "0 0 0, 0 1 0 0 1"},
		{opBegin(), "7 0 0, 0 1 0 0 1"},
		{opUndo(), "9 0 0, 0 1 0 0 1"},
		{opRedo(), "9 0 0, 0 1 0 0 1"},
		{opSnap(0), "9 0 0, 0 1 0 0 1"},
		{opBack(0), "9 0 0, 0 1 0 0 1"},
		{opEnd(), "0 0 0, 0 1 0 0 0"},
		{opBegin(), "0 0 0, 0 1 0 0 1"},
		{opInsert(0, "abc"), "0 3 0, 3 1 0 0 1"},
		{opInsert(1, ""), "0 0 0, 3 1 0 0 1"},
		{opDelete(1, 1), "0 0 0, 3 1 0 0 1"},
		{opInsert(9, "x"), "2 0 0, 3 1 0 0 1"},
		{opDelete(0, 1), "0 1 0, 2 1 0 0 1"},
		{opSlice(0, 2), "0 0 0, 2 1 0 0 1 :bc"},
		{opInsert(2, "\n"), "0 1 0, 3 2 0 0 1"},
		{opEnd(), "0 3 0, 3 2 1 0 0"},
		{opInsert(3, "z"), "0 1 0, 4 2 2 0 0"},
		{opUndo(), "0 1 0, 3 2 1 1 0"},
		{opUndo(), "0 3 0, 0 1 0 2 0"},
		{opUndo(), "6 0 0, 0 1 0 2 0"},
		{opRedo(), "0 3 0, 3 2 1 1 0"},
		{opBegin(), "0 0 0, 3 2 1 1 1"},
		{opEnd(), "0 0 0, 3 2 1 1 0"},
		{opBegin(), "0 0 0, 3 2 1 1 1"},
		{opDelete(0, 0), "0 0 0, 3 2 1 1 1"},
		{opInsert(0, "q"), "0 1 0, 4 2 1 0 1"},
		{opEnd(), "0 1 0, 4 2 2 0 0"},
		{opRedo(), "6 0 0, 4 2 2 0 0"},
		{opDump(), "0 0 0, 4 2 2 0 0 :qbc\n"},
	})
}

// Promise 11: snapshots, by hand: both stacks are kept with text and marks, stay kept, and go over what was there.
func TestRunSlotsByHand(t *testing.T) {
	wantSteps(t, "slots", 5, []stepSeen{
		{opBack(0), "11 0 0, 0 1 0 0 0"},
		{opBack(8), "11 0 0, 0 1 0 0 0"},
		{opSnap(8), "11 0 0, 0 1 0 0 0"},
		{opSnap(-1), "11 0 0, 0 1 0 0 0"},
		{opInsert(0, "ab"), "0 2 0, 2 1 1 0 0"},
		{opInsert(2, "\n"), "0 1 0, 3 2 2 0 0"},
		{opMark(1, 1, 0), "0 0 0, 3 2 2 0 0"},
		{opUndo(), "0 1 0, 2 1 1 1 0"},
		{opSnap(7), "0 0 0, 2 1 1 1 0"},
		{opInsert(0, "xy"), "0 2 0, 4 1 2 0 0"},
		{opDrop(1), "0 3 0, 4 1 2 0 0"},
		{opMark(2, 4, 1), "0 0 0, 4 1 2 0 0"},
		{opSnap(0), "0 0 0, 4 1 2 0 0"},
		{opBack(7), "0 0 0, 2 1 1 1 0"},
		{opDump(), "0 0 0, 2 1 1 1 0 :ab 1@1L"},
		{opRedo(), "0 1 0, 3 2 2 0 0"},
		{opUndo(), "0 1 0, 2 1 1 1 0"},
		{opUndo(), "0 1 0, 0 1 0 2 0"},
		{opInsert(0, "other"), "0 5 0, 5 1 1 0 0"},
		{opBack(7), "0 0 0, 2 1 1 1 0"},
		{opRedo(), "0 1 0, 3 2 2 0 0"},
		{opDump(), "0 0 0, 3 2 2 0 0 :ab\n 1@1L"},
		{opBack(0), "0 0 0, 4 1 2 0 0"},
		{opDump(), "0 0 0, 4 1 2 0 0 :xyab 2@4R"},
		{opUndo(), "0 1 0, 2 1 1 1 0"},
		{opSnap(7), "0 0 0, 2 1 1 1 0"},
		{opUndo(), "0 1 0, 0 1 0 2 0"},
		{opBack(7), "0 0 0, 2 1 1 1 0"},
		{opDump(), "0 0 0, 2 1 1 1 0 :ab 2@2R"},
	})
}

// Promise 11: many scripts of many sorts; both engines give the observations of a plain list of runes, and end with the
// cores that the chapter's calls give.
func TestRunsByTheModel(t *testing.T) {
	for habit := range habits {
		for seed := range 120 {
			hcap := []int{100, 3, 1, 5, 1000}[seed%5]
			script := scriptOf(t, habit, seed, 150, hcap)
			wantRuns(t, fmt.Sprintf("%s, seed %d", habit, seed), script, hcap)
			if t.Failed() {
				return
			}
		}
	}
}

// Promise 11: every offset, range, line and column of a text, and those just outside, in both engines.
func TestRunPlaces(t *testing.T) {
	for _, text := range []string{"", "a", "\n", "ab\ncd", "\n\na\n", "abc\n\n\ndefg\nh\n", "0123456789abcdef\n0123456789abcdef\n"} {
		script := []impl.Op{opInsert(0, text)}
		for a := -2; a < len(text)+3; a++ {
			script = append(script, opLineCol(a), opInsert(a, ""), opDelete(a, a))
			for b := -2; b < len(text)+3; b++ {
				script = append(script, opOffset(a, b), opSlice(a, b))
			}
		}
		wantRuns(t, fmt.Sprintf("%q", text), script, 5)
	}
}

// Promise 11: the least and the greatest integers in every field of every kind.
func TestRunExtremes(t *testing.T) {
	start := []impl.Op{opInsert(0, "ab\ncd"), opMark(0, 2, 1), opInsert(5, "e"), opDelete(0, 1), opUndo(), opSnap(1)}
	numbers := append([]int{0, 1, 2}, extremes...)
	for kind := impl.OpInsert; kind <= impl.OpDump; kind++ {
		script := slices.Clone(start)
		for _, a := range numbers {
			for _, b := range numbers {
				for _, c := range []int{0, 1, extremes[0], extremes[len(extremes)-1]} {
					script = append(script, impl.Op{Kind: kind, A: a, B: b, C: c, Text: []byte("x\n")})
				}
			}
		}
		wantRuns(t, fmt.Sprintf("kind %d", kind), append(script, opDump()), 5)
	}
	var script []impl.Op
	for _, kind := range append([]int{0, 17, 18, 1000}, extremes...) {
		for _, a := range numbers {
			script = append(script, impl.Op{Kind: kind, A: a, B: a, C: a, Text: []byte("x")})
		}
	}
	for _, o := range runBoth(script, 5).piece.Obs {
		wantObs(t, "no kind", o, impl.Obs{Code: impl.ErrKind, Lines: 1})
	}
	wantRuns(t, "no kinds", script, 5)
}

// Promise 11: a long text and a great table of marks, edited and undone.
func TestRunLongText(t *testing.T) {
	var long []byte
	for k := range impl.MaxText - 100 {
		long = append(long, "abcdefg\nij\n"[k%11])
	}
	script := []impl.Op{{Kind: impl.OpInsert, Text: long}}
	for k := range impl.MaxMarks {
		script = append(script, opMark(k*7919%1000, k*63, k%2))
	}
	script = append(script, opBegin())
	for k := range 12 {
		script = append(script, opInsert(k*600, "\nput in"), opDelete(k*650+1, k*660+300))
	}
	script = append(script, opEnd(), opDump(), opLineCol(3000), opSnap(1), opUndo(), opDump(), opRedo(), opUndo(), opBack(1), opUndo(), opDump())
	wantRuns(t, "a long text", script, 5)
}

// Promise 11 with rule 4 of chapter 1: the script isn't changed, and no two lists of an answer share memory.
func TestRunsShareNothing(t *testing.T) {
	script := []impl.Op{opInsert(0, "ab\ncd\nef"), opMark(1, 2, 1), opMark(2, 5, 0), opDump(), opSlice(0, 8), opSnap(0), opDelete(1, 7), opDump(),
		opUndo(), opDump(), opSlice(2, 5), opBack(0), opDump(), opInsert(2, "xyz\n"), opRedo(), opSnap(0), opDump(), opBack(0), opDump(), opLineCol(9)}
	var texts [][]byte
	in := slices.Clone(script)
	for k := range in {
		part, whole := spare(in[k].Text, 'w')
		in[k].Text = part
		texts = append(texts, slices.Clone(whole))
	}
	got := runBoth(in, 5)
	for k := range in {
		wantSame(t, "a script's text", in[k].Text[:cap(in[k].Text)][:len(texts[k])], texts[k])
		overwrite(in[k].Text)
	}
	want := runBoth(script, 5)
	for name, pair := range map[string][2][]impl.Obs{"pieces": {got.piece.Obs, want.piece.Obs}, "lines": {got.line.Obs, want.line.Obs}} {
		wantAllObs(t, name+", behind writing into the script", script, pair[0], pair[1])
		for k := range pair[0] {
			overwrite(pair[0][k].Text)
			scribbleMarks(pair[0][k].Marks)
			wantAllObs(t, name+", behind writing into what came before", script[k+1:], pair[0][k+1:], pair[1][k+1:])
		}
	}
	wantPieces(t, "behind writing into the observations", got.piece.Final, got.piece.Code, want.piece.Final)
	wantLines(t, "behind writing into the observations", got.line.Final, got.line.Code, want.line.Final)
	scribblePieces(t, "last pieces", got.piece.Final)
	scribbleLines(t, "last lines", got.line.Final)
	again := runBoth(script, 5)
	wantAllObs(t, "a run behind another", script, again.piece.Obs, want.piece.Obs)
	wantPieces(t, "a run behind another", again.piece.Final, again.piece.Code, want.piece.Final)
	wantLines(t, "a run behind another", again.line.Final, again.line.Code, want.line.Final)
}
