package tests

import (
	"fmt"
	"math"
	"slices"
	"testing"

	"loop.example/s01685/impl"
)

// wrongPieces break one rule each, or several.
var wrongPieces = []impl.Piece{
	{Off: -1, Len: 1}, {Off: -1, Len: 2}, {Off: math.MinInt, Len: 1}, {Off: math.MinInt, Len: impl.MaxText},
	{Off: 0, Len: 0}, {Off: 3, Len: -1}, {Off: 0, Len: math.MinInt}, {Off: 0, Len: impl.MaxText + 1}, {Off: 0, Len: math.MaxInt},
	{Off: impl.MaxStore, Len: 1}, {Off: impl.MaxStore - 1, Len: 2}, {Off: impl.MaxStore - impl.MaxText + 1, Len: impl.MaxText},
	{Off: math.MaxInt, Len: 1}, {Off: math.MaxInt - 5, Len: 10}, {Off: math.MaxInt, Len: math.MaxInt}, {Off: math.MaxInt, Len: math.MinInt},
	{Off: impl.MaxStore + 1, Len: -1}, {Off: -1, Len: impl.MaxStore + 1},
	{Off: 0, Len: 1, Breaks: -1}, {Off: 0, Len: 1, Breaks: 2}, {Off: 5, Len: 7, Breaks: 8}, {Off: 0, Len: 1, Breaks: math.MinInt},
	{Off: 0, Len: impl.MaxText, Breaks: impl.MaxText + 1}, {Off: 0, Len: 1, Breaks: math.MaxInt},
}

// rightPieces meet the bounds exactly.
var rightPieces = []impl.Piece{
	{Off: 0, Len: 1}, {Off: 0, Len: 1, Breaks: 1}, {Off: impl.MaxStore - 1, Len: 1}, {Off: 0, Len: impl.MaxText},
	{Off: impl.MaxStore - impl.MaxText, Len: impl.MaxText, Breaks: impl.MaxText}, {Off: 7, Len: 5, Breaks: 5},
}

func ofLength(lengths ...int) impl.Tree {
	var t impl.Tree
	for k, level := range evenShape(len(lengths)) {
		t.Items = append(t.Items, impl.Item{Piece: impl.Piece{Len: lengths[k]}, Level: level})
	}
	return t
}

func leveled(levels ...int) impl.Tree { return singles(levels, 0) }

// chain is levels that go down, one by one, without end.
func chain(length int, downwards bool) []int {
	var levels []int
	for k := range length {
		levels = append(levels, k)
	}
	if !downwards {
		slices.Reverse(levels)
	}
	return levels
}

// wrongTrees are trees that are not valid, by each of the rules.
func wrongTrees() map[string]impl.Tree {
	wrong := map[string]impl.Tree{
		"no root":                      leveled(1),
		"no root over two":             leveled(1, 2, 1),
		"two roots":                    leveled(0, 0),
		"two roots apart":              leveled(0, 1, 0),
		"two left children":            leveled(1, 1, 0),
		"two right children":           leveled(1, 0, 1, 1),
		"two right children apart":     leveled(1, 0, 1, 2, 1),
		"a level left out":             leveled(0, 2),
		"a level left out on the left": leveled(2, 0, 1),
		"a level left out below":       leveled(1, 3, 0, 1),
		"a negative level":             leveled(-1),
		"a negative level beside":      leveled(0, -1),
		"a negative level before":      leveled(-1, 0),
		"the least level":              leveled(math.MinInt),
		"the least level beside":       leveled(1, 0, math.MinInt),
		"the greatest level":           leveled(math.MaxInt),
		"the greatest level beside":    leveled(math.MaxInt, 0),
		"the greatest level behind":    leveled(0, math.MaxInt),
		"greatest levels only":         leveled(math.MaxInt, math.MaxInt, math.MaxInt),
		"a great level":                leveled(1, 0, 1<<40),
		"a level of 32 bits less":      leveled(0, 1+1<<32),
		"heights 0 and 2":              leveled(0, 1, 2),
		"heights 0 and 2, bent":        leveled(0, 2, 1),
		"heights 2 and 0":              leveled(2, 1, 0),
		"heights 2 and 0, bent":        leveled(1, 2, 0),
		"heights 3 and 1":              leveled(3, 2, 1, 2, 0, 1),
		"heights 1 and 3":              leveled(1, 0, 2, 1, 2, 3),
		"balanced at the root alone":   leveled(3, 2, 1, 0, 1, 2, 3),
		"a long chain down":            leveled(chain(impl.MaxText, true)...),
		"a long chain up":              leveled(chain(impl.MaxText, false)...),
		"a chain of many items":        leveled(chain(impl.MaxStore, false)...),
		"one rune too many":            ofLength(impl.MaxText, 1),
		"one rune too many in three":   ofLength(impl.MaxText/2, impl.MaxText/2, 1),
		"one item too many":            singles(evenShape(impl.MaxText+1), 0),
		"many times too many":          ofLength(slices.Repeat([]int{impl.MaxText}, 1000)...),
		"lengths that sum to little":   ofLength(math.MaxInt, math.MaxInt, 4),
		"lengths that sum to zero":     ofLength(math.MinInt, math.MinInt),
		"a negative length between":    ofLength(impl.MaxText, -5, 5),
	}
	for k, p := range wrongPieces {
		alone := impl.Tree{Items: []impl.Item{{Piece: p}}}
		wrong[fmt.Sprintf("wrong piece %d", k)] = alone
		for rank := range 3 {
			among := leveled(1, 0, 1)
			among.Items[rank].Piece = p
			wrong[fmt.Sprintf("wrong piece %d at %d", k, rank)] = among
		}
	}
	return wrong
}

// Promise 3: a tree that isn't valid is told ahead of everything else, by all four calls.
func TestNoTree(t *testing.T) {
	fine := treeOf([]int{1, 0, 1}, 0)
	for name, tree := range wrongTrees() {
		if modelValid(tree) {
			t.Fatalf("%s: the test's own wrong tree is valid", name)
		}
		for _, rank := range append([]int{0, 1, len(tree.Items), len(tree.Items) + 1}, extremes...) {
			what := fmt.Sprintf("%s, at %d", name, rank)
			got, code := impl.TreeInsert(tree, rank, impl.Piece{Len: 1})
			wantRefused(t, what+", insert", code, impl.ErrBad, got)
			got, code = impl.TreeInsert(tree, rank, impl.Piece{Len: impl.MaxText})
			wantRefused(t, what+", insert much", code, impl.ErrBad, got)
			got, code = impl.TreeDelete(tree, rank)
			wantRefused(t, what+", delete", code, impl.ErrBad, got)
			x, y, code := impl.TreeSplit(tree, rank)
			wantRefused(t, what+", split", code, impl.ErrBad, x, y)
		}
		for _, other := range []impl.Tree{{}, fine, tree, ofLength(impl.MaxText)} {
			got, code := impl.TreeJoin(tree, other)
			wantRefused(t, name+", joined", code, impl.ErrBad, got)
			got, code = impl.TreeJoin(other, tree)
			wantRefused(t, name+", joined behind", code, impl.ErrBad, got)
		}
	}
}

// Promise 3: of all lists of up to five levels, just the valid trees are taken.
func TestEveryFewLevels(t *testing.T) {
	taken := 0
	var try func(levels []int)
	try = func(levels []int) {
		tree := leveled(levels...)
		want := impl.ErrBad
		if modelValid(tree) {
			want = impl.OK
			taken++
		}
		if got, code := impl.TreeJoin(tree, impl.Tree{}); code != want || want == impl.OK && !slices.Equal(got.Items, tree.Items) {
			t.Errorf("levels %v: %s, code %d, want %d", levels, spell(got), code, want)
		}
		if len(levels) == 5 {
			return
		}
		for level := -1; level <= 5; level++ {
			try(append(slices.Clone(levels), level))
		}
	}
	try(nil)
	if taken != 1+1+2+1+4+6 {
		t.Errorf("%d trees of at most five items", taken)
	}
}

// Promise 3: pieces that are not valid aren't inserted; this is told ahead of the rank and of the total.
func TestInsertNoPiece(t *testing.T) {
	for _, in := range []impl.Tree{{}, leveled(1, 0, 1), ofLength(impl.MaxText)} {
		for _, p := range wrongPieces {
			for _, rank := range append([]int{0, len(in.Items), len(in.Items) + 1}, extremes...) {
				got, code := impl.TreeInsert(in, rank, p)
				wantRefused(t, fmt.Sprintf("inserting %v at %d", p, rank), code, impl.ErrBad, got)
			}
		}
	}
	for _, p := range rightPieces {
		got, code := impl.TreeInsert(impl.Tree{}, 0, p)
		wantTree(t, fmt.Sprintf("inserting %v", p), got, code, &modelNode{piece: p}, []impl.Piece{p})
	}
}

// Promise 3: ranks outside, told ahead of a total that would be too great.
func TestRanksOutside(t *testing.T) {
	for _, in := range []impl.Tree{{}, leveled(0), leveled(1, 0, 1), treeOf(fullShape(4), 0), ofLength(impl.MaxText)} {
		n := len(in.Items)
		for _, rank := range append([]int{-1, n + 1}, extremes...) {
			what := fmt.Sprintf("at %d of %d items", rank, n)
			for _, length := range []int{1, impl.MaxText} {
				got, code := impl.TreeInsert(in, rank, impl.Piece{Len: length})
				wantRefused(t, what+", insert", code, impl.ErrRange, got)
			}
			x, y, code := impl.TreeSplit(in, rank)
			wantRefused(t, what+", split", code, impl.ErrRange, x, y)
		}
		for _, rank := range append([]int{-1, n, n + 1}, extremes...) {
			got, code := impl.TreeDelete(in, rank)
			wantRefused(t, fmt.Sprintf("deleting %d of %d items", rank, n), code, impl.ErrRange, got)
		}
	}
}

// Promise 3: totals that come to MaxText exactly, and to one more.
func TestTotalsAtTheLimit(t *testing.T) {
	for _, lengths := range [][]int{{}, {1}, {impl.MaxText - 1}, {4000, 4000}, {impl.MaxText}, {1, impl.MaxText - 2, 1}} {
		in := ofLength(lengths...)
		total := 0
		for _, length := range lengths {
			total += length
		}
		for length := max(1, impl.MaxText-total-2); length <= min(impl.MaxText, impl.MaxText-total+2); length++ {
			want := impl.OK
			if total+length > impl.MaxText {
				want = impl.ErrFull
			}
			p := impl.Piece{Len: length}
			for rank := range len(lengths) + 1 {
				wantTotal(t, fmt.Sprintf("inserting %d into %v at %d", length, lengths, rank), want, len(lengths)+1)(impl.TreeInsert(in, rank, p))
			}
			wantTotal(t, fmt.Sprintf("joining %v and %d", lengths, length), want, len(lengths)+1)(impl.TreeJoin(in, ofLength(length)))
			wantTotal(t, fmt.Sprintf("joining %d and %v", length, lengths), want, len(lengths)+1)(impl.TreeJoin(ofLength(length), in))
		}
	}
	full := ofLength(impl.MaxText)
	wantTotal(t, "joining full ones", impl.ErrFull, 0)(impl.TreeJoin(full, full))
	wantTotal(t, "joining a full one and nothing", impl.OK, 1)(impl.TreeJoin(full, impl.Tree{}))
	wantTotal(t, "joining nothing and a full one", impl.OK, 1)(impl.TreeJoin(impl.Tree{}, full))
	wantTotal(t, "joining two of MaxText items", impl.ErrFull, 0)(
		impl.TreeJoin(singles(evenShape(impl.MaxText), 0), singles(evenShape(impl.MaxText), 0)))
}

// wantTotal asks for a code, and for that many items beside code 0.
func wantTotal(t *testing.T, what string, want, items int) func(impl.Tree, int) {
	return func(got impl.Tree, code int) {
		t.Helper()
		if want != impl.OK {
			wantRefused(t, what, code, want, got)
			return
		}
		if code != impl.OK || len(got.Items) != items || !modelValid(got) {
			t.Errorf("%s: %s, code %d, want %d items", what, spell(got), code, items)
		}
	}
}

// guarded is a tree whose items have room behind their end, and a check that neither has been written to.
func guarded(t *testing.T, in impl.Tree) (impl.Tree, func(what string)) {
	items, whole := spare(in.Items, impl.Item{Piece: impl.Piece{Off: 77, Len: 7, Breaks: 7}, Level: 77})
	before := slices.Clone(whole)
	return impl.Tree{Items: items}, func(what string) {
		t.Helper()
		wantSame(t, what, whole, before)
	}
}

// scribble writes over an answer and over the room behind its end.
func scribble(t impl.Tree) {
	items := t.Items[:cap(t.Items)]
	for k := range items {
		items[k] = impl.Item{Piece: impl.Piece{Off: -1, Len: -1, Breaks: -1}, Level: -1}
	}
}

// Promise 3 with rule 4 of chapter 1: no argument is changed, and no answer shares memory with one or with another.
func TestTreesShareNothing(t *testing.T) {
	for _, levels := range append(shapesUpTo(3), sparseShape(6, true), sparseShape(6, false)) {
		in, check := guarded(t, treeOf(levels, 0))
		other, checkOther := guarded(t, treeOf(levels, 100))
		for rank := -1; rank <= len(levels)+1; rank++ {
			got, _ := impl.TreeInsert(in, rank, pieceNumber(50))
			check("behind inserting")
			scribble(got)
			got, _ = impl.TreeDelete(in, rank)
			check("behind deleting")
			scribble(got)
			x, y, _ := impl.TreeSplit(in, rank)
			check("behind splitting")
			yBefore := slices.Clone(y.Items)
			scribble(x)
			wantSame(t, "second tree behind writing into the first", y.Items, yBefore)
			scribble(y)
			impl.TreeFind(in, rank)
			impl.TreeFindLine(in, rank)
			check("behind writing into answers")
		}
		for _, pair := range [][2]impl.Tree{{in, other}, {in, {}}, {{}, in}, {in, in}} {
			got, _ := impl.TreeJoin(pair[0], pair[1])
			check("behind joining")
			checkOther("second one behind joining")
			scribble(got)
			check("behind writing into a join")
			checkOther("second one behind writing into a join")
		}
	}
}
