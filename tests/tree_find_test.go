package tests

import (
	"fmt"
	"math"
	"testing"

	"loop.example/s01685/impl"
)

// extremes are integers that no tree has a rune, a break or a rank for.
var extremes = []int{math.MinInt, math.MinInt + 1, math.MinInt32, -1 << 40, -2, -1, 1 << 40, math.MaxInt32, math.MaxInt - 1, math.MaxInt}

// wantFound holds TreeFind and TreeFindLine at every rune and every break of a valid tree against the plain list of its
// pieces, and one below and one beyond them.
func wantFound(t *testing.T, tree impl.Tree) {
	t.Helper()
	off, line := 0, 1
	for rank, it := range tree.Items {
		start := off
		for in := range it.Piece.Len {
			wantRune(t, tree, off, [4]int{rank, in, it.Level + 1, impl.OK})
			off++
		}
		for nth := 1; nth <= it.Piece.Breaks; nth++ {
			wantBreak(t, tree, line, [4]int{rank, nth, start, impl.OK})
			line++
		}
	}
	for _, outside := range append([]int{-1, off, off + 1}, extremes...) {
		wantRune(t, tree, outside, [4]int{0, 0, 0, impl.ErrRange})
	}
	for _, outside := range append([]int{0, line, line + 1}, extremes...) {
		wantBreak(t, tree, outside, [4]int{0, 0, 0, impl.ErrPlace})
	}
}

func wantRune(t *testing.T, tree impl.Tree, off int, want [4]int) {
	t.Helper()
	var got [4]int
	got[0], got[1], got[2], got[3] = impl.TreeFind(tree, off)
	if got != want {
		t.Errorf("finding rune %d of %s: %v, want %v", off, spell(tree), got, want)
	}
}

func wantBreak(t *testing.T, tree impl.Tree, line int, want [4]int) {
	t.Helper()
	var got [4]int
	got[0], got[1], got[2], got[3] = impl.TreeFindLine(tree, line)
	if got != want {
		t.Errorf("finding break %d of %s: %v, want %v", line, spell(tree), got, want)
	}
}

// Promise 4: all balanced trees of up to four levels, the empty one too, and some greater ones.
func TestFindEverything(t *testing.T) {
	for number, levels := range shapesUpTo(4) {
		wantFound(t, treeOf(levels, number))
	}
	for height := 5; height <= 8; height++ {
		wantFound(t, treeOf(sparseShape(height, true), height))
		wantFound(t, treeOf(sparseShape(height, false), height))
	}
	wantFound(t, treeOf(evenShape(200), 0))
	wantFound(t, treeOf(fullShape(7), 1))
}

// Promise 4: pieces of a length with no break, and with nothing but breaks, in turns and alone.
func TestFindAmongBreaks(t *testing.T) {
	for _, levels := range [][]int{{0}, {0, 1}, {1, 0}, {1, 0, 1}, sparseShape(4, true), sparseShape(4, false), fullShape(4)} {
		for _, breaksOf := range []func(rank, length int) int{
			func(rank, length int) int { return 0 },
			func(rank, length int) int { return length },
			func(rank, length int) int { return rank % 2 * length },
			func(rank, length int) int { return (rank + 1) % 2 * length },
			func(rank, length int) int { return rank / max(1, len(levels)-1) * length },
			func(rank, length int) int { return length / 2 },
		} {
			tree := treeOf(levels, 2)
			for rank := range tree.Items {
				p := &tree.Items[rank].Piece
				p.Len += 2
				p.Breaks = breaksOf(rank, p.Len)
			}
			wantFound(t, tree)
		}
	}
}

// Promise 4: the first and the last rune and break where there are MaxText of them, in one piece and in MaxText pieces.
func TestFindInMaxText(t *testing.T) {
	const last = impl.MaxText
	one := impl.Tree{Items: []impl.Item{{Piece: impl.Piece{Off: impl.MaxStore - last, Len: last, Breaks: last}}}}
	wantRune(t, one, 0, [4]int{0, 0, 1, impl.OK})
	wantRune(t, one, last-1, [4]int{0, last - 1, 1, impl.OK})
	wantRune(t, one, last, [4]int{0, 0, 0, impl.ErrRange})
	wantBreak(t, one, 1, [4]int{0, 1, 0, impl.OK})
	wantBreak(t, one, last, [4]int{0, last, 0, impl.OK})
	wantBreak(t, one, last+1, [4]int{0, 0, 0, impl.ErrPlace})

	many := singles(evenShape(last), 0)
	for k := 0; k < last; k += 455 {
		wantRune(t, many, k, [4]int{k, 0, many.Items[k].Level + 1, impl.OK})
		wantBreak(t, many, k/2+1, [4]int{k/2*2 + 1, 1, k/2*2 + 1, impl.OK})
	}
	wantRune(t, many, last-1, [4]int{last - 1, 0, many.Items[last-1].Level + 1, impl.OK})
	wantRune(t, many, last, [4]int{0, 0, 0, impl.ErrRange})
	wantBreak(t, many, last/2, [4]int{last - 1, 1, last - 1, impl.OK})
	wantBreak(t, many, last/2+1, [4]int{0, 0, 0, impl.ErrPlace})
}

// Promise 4: the answers of other calls are found in as well as trees that were written down.
func TestFindInAnswers(t *testing.T) {
	tree := treeOf(sparseShape(6, true), 3)
	for k := range 12 {
		grown, code := impl.TreeInsert(tree, k, pieceNumber(200+k))
		if code != impl.OK {
			t.Fatalf("insertion %d: code %d", k, code)
		}
		wantFound(t, grown)
		x, y, code := impl.TreeSplit(grown, 2*k)
		if code != impl.OK {
			t.Fatalf("split %d: code %d", k, code)
		}
		wantFound(t, x)
		wantFound(t, y)
		tree, code = impl.TreeJoin(y, x)
		if code != impl.OK {
			t.Fatalf("join %d: code %d", k, code)
		}
		wantFound(t, tree)
	}
}

// Promise 4: a tree that isn't valid is told ahead of an offset or a line that lies outside.
func TestFindInNoTree(t *testing.T) {
	for name, tree := range wrongTrees() {
		for _, k := range append([]int{0, 1, 2}, extremes...) {
			what := fmt.Sprintf("%s, at %d", name, k)
			a, b, c, code := impl.TreeFind(tree, k)
			if [4]int{a, b, c, code} != [4]int{0, 0, 0, impl.ErrBad} {
				t.Errorf("%s: TreeFind %d %d %d, code %d, want nothing and ErrBad", what, a, b, c, code)
			}
			a, b, c, code = impl.TreeFindLine(tree, k)
			if [4]int{a, b, c, code} != [4]int{0, 0, 0, impl.ErrBad} {
				t.Errorf("%s: TreeFindLine %d %d %d, code %d, want nothing and ErrBad", what, a, b, c, code)
			}
		}
	}
}
