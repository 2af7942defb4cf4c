package tests

import (
	"fmt"
	"slices"
	"testing"

	"loop.example/s01685/impl"
)

// Promise 6: the levels of loaded texts of up to eight chunks, by hand.
func TestPieceLoadByHand(t *testing.T) {
	for chunks, levels := range [][]int{{}, {0}, {1, 0}, {1, 0, 1}, {2, 1, 0, 1}, {2, 1, 0, 2, 1}, {2, 1, 2, 0, 2, 1},
		{2, 1, 2, 0, 2, 1, 2}, {3, 2, 1, 2, 0, 2, 1, 2}} {
		for _, missing := range []int{0, 1, 7, 15} {
			if chunks == 0 && missing > 0 {
				continue
			}
			text := countingStore(16*chunks - missing)
			want := impl.PieceBuf{Store: text}
			for k, level := range levels {
				span := text[16*k : min(16*k+16, len(text))]
				p := impl.Piece{Off: 16 * k, Len: len(span), Breaks: breaksIn(span)}
				want.Tree.Items = append(want.Tree.Items, impl.Item{Piece: p, Level: level})
			}
			got, code := impl.PieceLoad(text)
			wantPieces(t, fmt.Sprintf("loading %d runes", len(text)), got, code, want)
		}
	}
}

// Promise 6: texts around multiples of ChunkRunes, of all breaks too, up to MaxText and one more.
func TestPieceLoad(t *testing.T) {
	for _, length := range []int{0, 1, 15, 16, 17, 31, 32, 33, 47, 48, 49, 255, 256, 257, 1000, 4095, 4096, 4097,
		impl.MaxText - 16, impl.MaxText - 15, impl.MaxText - 1, impl.MaxText} {
		for _, text := range [][]int32{countingStore(length), slices.Repeat([]int32{10}, length)} {
			got, code := impl.PieceLoad(text)
			wantPieces(t, fmt.Sprintf("loading %d runes", length), got, code, modelPieceLoad(text))
			wantSame(t, "text", piecedText(got), text)
		}
	}
	for _, length := range []int{impl.MaxText + 1, impl.MaxText + 16, impl.MaxStore, impl.MaxStore + 1} {
		got, code := impl.PieceLoad(make([]int32, length))
		wantNoPieces(t, fmt.Sprintf("loading %d runes", length), got, code, impl.ErrFull)
	}
}

// Promise 6: each of the three ways of an insertion, by hand.
func TestPieceInsertByHand(t *testing.T) {
	for _, c := range []struct {
		name, store, items string
		off                int
		put, want          string
	}{
		{"into nothing", "", "", 0, "ab", "0+2:0"},
		{"into an empty text over a store", "abc", "", 0, "xy", "3+2:0"},
		{"longer", "ab", "0+2:0", 2, "c\n", "0+4:0"},
		{"longer, a part of the store", "abc", "1+2:0", 2, "d", "1+3:0"},
		{"longer, in the middle of the text", "abc", "2+1:1 0+2:0", 1, "\nx", "2+3:1 0+2:0"},
		{"longer, the first of two with the same span", "ab", "0+2:1 0+2:0", 2, "x", "0+3:1 0+2:0"},
		{"longer, the second of two with the same span", "ab", "0+2:1 0+2:0", 4, "x", "0+2:1 0+3:0"},
		{"longer, the next one ends at the store's end too", "ab", "0+2:0 1+1:1", 2, "x", "0+3:0 1+1:1"},
		{"not longer: ends here, but not at the store's end", "abx", "0+2:0", 2, "c", "0+2:0 3+1:1"},
		{"not longer: ends at the store's end, but not here", "abc", "2+1:1 0+2:0", 3, "x", "2+1:1 0+2:0 3+1:1"},
		{"not longer: at the start", "ab", "0+2:0", 0, "x", "2+1:1 0+2:0"},
		{"not longer: the same runes end the store, but it isn't their span", "abab", "0+2:1 0+2:0", 2, "x", "0+2:1 4+1:0 0+2:1"},
		{"a cut", "abcd", "0+4:0", 2, "x", "0+2:1 4+1:0 2+2:1"},
		{"a cut behind the first rune", "abcd", "0+4:0", 1, "x", "0+1:1 4+1:0 1+3:1"},
		{"a cut before the last rune", "a\nb\n", "0+4:0", 3, "\n", "0+3:1 4+1:0 3+1:1"},
		{"a cut at a node with two children", "abcdef", "0+2:1 2+2:0 4+2:1", 3, "x", "0+2:1 2+1:0 6+1:2 3+1:1 4+2:2"},
		{"a cut at a left child", "abcdef", "0+2:1 2+2:0 4+2:1", 1, "x", "0+1:2 6+1:1 1+1:2 2+2:0 4+2:1"},
		{"a cut at a right child", "abcdef", "0+2:1 2+2:0 4+2:1", 5, "x", "0+2:1 2+2:0 4+1:2 6+1:1 5+1:2"},
		{"before a piece", "abxcd", "0+2:0 3+2:1", 2, "y", "0+2:1 5+1:0 3+2:1"},
		{"before a piece with a left child", "abcd", "0+1:1 1+2:0", 1, "y", "0+1:1 4+1:0 1+2:1"},
		{"at the end", "abcdx", "0+1:1 1+1:0 2+1:1", 3, "y", "0+1:1 1+1:0 2+1:1 5+1:2"},
		{"an empty text", "abcd", "0+1:1 1+2:0", 2, "", "0+1:1 1+2:0"},
		{"an empty text into nothing", "", "", 0, "", ""},
	} {
		got, code := impl.PieceInsert(pieceBuf(t, c.store, c.items), c.off, letters(c.put))
		wantPieces(t, c.name, got, code, pieceBuf(t, c.store+c.put, c.want))
	}
}

// Promise 6: deletions inside one piece, of whole ones, over several, of all and of nothing, and their seams, by hand.
func TestPieceDeleteByHand(t *testing.T) {
	for _, c := range []struct {
		name, store, items string
		lo, hi             int
		want               string
	}{
		{"inside one piece", "abcdef", "0+6:0", 2, 4, "0+2:1 4+2:0"},
		{"the start of a piece", "abcdef", "0+6:0", 0, 4, "4+2:0"},
		{"the end of a piece", "abcdef", "0+6:0", 2, 6, "0+2:0"},
		{"all of one piece", "abcdef", "0+6:0", 0, 6, ""},
		{"all of several", "abcdef", "0+2:1 2+2:0 4+2:1", 0, 6, ""},
		{"nothing", "abcdef", "0+2:1 2+2:0 4+2:1", 3, 3, "0+2:1 2+2:0 4+2:1"},
		{"nothing of nothing", "abc", "", 0, 0, ""},
		{"a whole piece, the seam is healed", "abcdx", "0+2:1 4+1:0 2+2:1", 2, 3, "0+4:0"},
		{"a whole piece, no seam to heal", "abcdx", "2+2:1 4+1:0 0+2:1", 2, 3, "2+2:1 0+2:0"},
		{"a seam of neighbours in the store, the other way round", "abxcd", "3+2:1 2+1:0 0+2:1", 2, 3, "3+2:1 0+2:0"},
		{"a second seam beside it stays", "abcdefx", "0+2:1 6+1:0 2+2:1 4+2:2", 2, 3, "0+4:1 4+2:0"},
		{"a second seam before it stays", "abcdefx", "0+2:2 2+2:1 6+1:0 4+2:1", 4, 5, "0+2:1 2+4:0"},
		{"a seam that isn't the place's stays", "abcdef", "0+2:1 2+2:0 4+2:1", 1, 3, "0+1:1 3+1:0 4+2:1"},
		{"seams stay where the text starts", "abcdef", "0+2:1 2+2:0 4+2:1", 0, 1, "1+1:1 2+2:0 4+2:1"},
		{"seams stay where the text ends", "abcdef", "0+2:1 2+2:0 4+2:1", 5, 6, "0+2:1 2+2:0 4+1:1"},
		{"over several, with breaks", "a\nb\nc\n", "0+2:1 2+2:0 4+2:1", 1, 5, "0+1:1 5+1:0"},
		{"the same span twice, healed by a part of each", "abcd", "0+4:1 0+4:0", 2, 6, "0+4:0"},
	} {
		got, code := impl.PieceDelete(pieceBuf(t, c.store, c.items), c.lo, c.hi)
		wantPieces(t, c.name, got, code, pieceBuf(t, c.store, c.want))
	}
}

// Promise 6: all texts at every place of all forms; the text is the list of runes with the edit made.
func TestPieceInsertEverywhere(t *testing.T) {
	for k, b := range pieceForms() {
		text := piecedText(b)
		for off := range len(text) + 1 {
			for _, put := range puts() {
				what := fmt.Sprintf("form %d, %v at %d of %s", k, put, off, spell(b.Tree))
				got, code := impl.PieceInsert(b, off, put)
				wantPieces(t, what, got, code, modelPieceInsert(t, b, off, put))
				wantSame(t, what+": text", piecedText(got), slices.Insert(slices.Clone(text), off, put...))
			}
		}
	}
}

// Promise 6: every range of all forms, deleted and read; ranges outside are refused.
func TestPieceRangesEverywhere(t *testing.T) {
	for k, b := range pieceForms() {
		text := piecedText(b)
		for lo := -1; lo <= len(text)+1; lo++ {
			for hi := -1; hi <= len(text)+1; hi++ {
				what := fmt.Sprintf("form %d, %d to %d of %s", k, lo, hi, spell(b.Tree))
				got, code := impl.PieceDelete(b, lo, hi)
				read, readCode := impl.PieceSlice(b, lo, hi)
				if lo < 0 || hi < lo || len(text) < hi {
					wantNoPieces(t, what, got, code, impl.ErrRange)
					wantNoText(t, what, read, readCode, impl.ErrRange)
					continue
				}
				wantPieces(t, what, got, code, modelPieceDelete(t, b, lo, hi))
				wantSame(t, what+": text", piecedText(got), slices.Delete(slices.Clone(text), lo, hi))
				if readCode != impl.OK {
					t.Errorf("%s, reading: code %d", what, readCode)
				}
				wantSame(t, what+", reading", read, text[lo:hi])
			}
		}
	}
}

// Promise 6: many edits, one behind the other, from nothing and from a loaded text; runs of typing among them.
func TestPieceManyEdits(t *testing.T) {
	for seed := range 6 {
		d := dice(seed)
		b := modelPieceLoad(countingStore(100 * seed))
		text := piecedText(b)
		at := 0
		for step := range 250 {
			if d.roll(3) == 0 {
				at = d.roll(len(text) + 1)
			}
			at = min(at, len(text))
			var got, want impl.PieceBuf
			var code int
			if d.roll(5) < 3 {
				put := puts()[d.roll(8)]
				want = modelPieceInsert(t, b, at, put)
				got, code = impl.PieceInsert(b, at, put)
				text = slices.Insert(text, at, put...)
				at += len(put)
			} else {
				hi := min(len(text), at+d.roll(12))
				want = modelPieceDelete(t, b, at, hi)
				got, code = impl.PieceDelete(b, at, hi)
				text = slices.Delete(text, at, hi)
			}
			what := fmt.Sprintf("seed %d, step %d", seed, step)
			wantPieces(t, what, got, code, want)
			wantSame(t, what+": text", piecedText(got), text)
			b = got
		}
	}
}

// Promise 6: a great text of MaxText runes, cut into pieces of one rune by many edits and taken apart again.
func TestPieceGreatTree(t *testing.T) {
	b := impl.PieceBuf{Store: countingStore(impl.MaxText)}
	for k, level := range evenShape(impl.MaxText) {
		p := impl.Piece{Off: impl.MaxText - 1 - k, Len: 1, Breaks: breaksIn(b.Store[impl.MaxText-1-k : impl.MaxText-k])}
		b.Tree.Items = append(b.Tree.Items, impl.Item{Piece: p, Level: level})
	}
	text := piecedText(b)
	for _, pair := range [][2]int{{0, impl.MaxText}, {1, impl.MaxText - 1}, {100, 5000}, {4096, 4097}, {0, 1}, {impl.MaxText - 1, impl.MaxText}} {
		got, code := impl.PieceDelete(b, pair[0], pair[1])
		wantPieces(t, fmt.Sprintf("deleting %v", pair), got, code, modelPieceDelete(t, b, pair[0], pair[1]))
		read, code := impl.PieceSlice(b, pair[0], pair[1])
		if code != impl.OK {
			t.Errorf("reading %v: code %d", pair, code)
		}
		wantSame(t, fmt.Sprintf("reading %v", pair), read, text[pair[0]:pair[1]])
	}
}

// Promise 8: insertions at every place of all forms, each deleted at once, several times in a row.
func TestInsertedAndDeletedAtOnce(t *testing.T) {
	for k, form := range pieceForms() {
		text := piecedText(form)
		for off := range len(text) + 1 {
			b := form
			for round := range 3 {
				for _, put := range puts() {
					b = wantGone(t, fmt.Sprintf("form %d, round %d, %v at %d", k, round, put, off), b, off, put)
				}
			}
			wantSame(t, "text behind all rounds", piecedText(b), text)
		}
	}
}

// wantGone inserts and deletes at once, and asks for the text of before and no more pieces than before.
func wantGone(t *testing.T, what string, b impl.PieceBuf, off int, put []int32) impl.PieceBuf {
	t.Helper()
	in, code := impl.PieceInsert(b, off, put)
	if code != impl.OK {
		t.Fatalf("%s, inserting: code %d", what, code)
	}
	out, code := impl.PieceDelete(in, off, off+len(put))
	if code != impl.OK {
		t.Fatalf("%s, deleting: code %d", what, code)
	}
	wantSame(t, what+": text", piecedText(out), piecedText(b))
	if len(out.Tree.Items) > len(b.Tree.Items) {
		t.Errorf("%s: %d pieces, before %d", what, len(out.Tree.Items), len(b.Tree.Items))
	}
	return out
}

// Promise 8: over a walk of other edits, and in texts that meet MaxText.
func TestInsertedAndDeletedOnTheWay(t *testing.T) {
	d := dice(8)
	b := modelPieceLoad(countingStore(300))
	for step := range 200 {
		length := len(piecedText(b))
		wantGone(t, fmt.Sprintf("step %d", step), b, d.roll(length+1), puts()[d.roll(8)])
		at := d.roll(length + 1)
		code := 0
		if d.roll(2) == 0 {
			b, code = impl.PieceInsert(b, at, puts()[d.roll(8)])
		} else {
			b, code = impl.PieceDelete(b, at, min(length, at+d.roll(5)))
		}
		if code != impl.OK {
			t.Fatalf("step %d: code %d", step, code)
		}
	}
	for _, off := range []int{0, 1, 16, 17, 4000, 7999, 8000} {
		wantGone(t, fmt.Sprintf("up to MaxText at %d", off), modelPieceLoad(countingStore(8000)), off, countingStore(192))
	}
}
