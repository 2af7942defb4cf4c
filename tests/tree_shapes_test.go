package tests

import (
	"strconv"
	"strings"
	"testing"

	"loop.example/s01685/impl"
)

// shapesOf gives the levels of all balanced trees of a height. There are 1, 1, 3, 15 and 315 of them for the first five.
func shapesOf(height int) [][]int {
	if height == 0 {
		return [][]int{nil}
	}
	var shapes [][]int
	for _, sides := range [][2]int{{height - 1, height - 1}, {height - 1, height - 2}, {height - 2, height - 1}} {
		if sides[0] < 0 || sides[1] < 0 {
			continue
		}
		for _, left := range shapesOf(sides[0]) {
			for _, right := range shapesOf(sides[1]) {
				shapes = append(shapes, under(left, right))
			}
		}
	}
	return shapes
}

// under puts a root over two trees.
func under(left, right []int) []int {
	levels := make([]int, 0, len(left)+len(right)+1)
	for _, level := range left {
		levels = append(levels, level+1)
	}
	levels = append(levels, 0)
	for _, level := range right {
		levels = append(levels, level+1)
	}
	return levels
}

// shapesUpTo gives the levels of all balanced trees of at most a height.
func shapesUpTo(height int) [][]int {
	var shapes [][]int
	for h := range height + 1 {
		shapes = append(shapes, shapesOf(h)...)
	}
	return shapes
}

// fullShape has as many items as a height allows.
func fullShape(height int) []int {
	if height == 0 {
		return nil
	}
	half := fullShape(height - 1)
	return under(half, half)
}

// sparseShape has as few items as a height allows; at each node the left side is the higher one, or the right one is.
func sparseShape(height int, leftHigh bool) []int {
	if height < 1 {
		return nil
	}
	high, low := sparseShape(height-1, leftHigh), sparseShape(height-2, leftHigh)
	if leftHigh {
		return under(high, low)
	}
	return under(low, high)
}

// evenShape has any number of items, its root in the middle.
func evenShape(items int) []int {
	if items == 0 {
		return nil
	}
	return under(evenShape(items/2), evenShape(items-items/2-1))
}

// treeOf puts pieces on levels, numbered from first on: all different, of one to three runes, with all numbers of breaks.
func treeOf(levels []int, first int) impl.Tree {
	var t impl.Tree
	for k, level := range levels {
		t.Items = append(t.Items, impl.Item{Piece: pieceNumber(first + k), Level: level})
	}
	return t
}

func pieceNumber(k int) impl.Piece {
	length := 1 + k%3
	return impl.Piece{Off: 5 * k, Len: length, Breaks: k / 3 % (length + 1)}
}

// singles is treeOf with pieces of one rune each, for great trees.
func singles(levels []int, first int) impl.Tree {
	var t impl.Tree
	for k, level := range levels {
		t.Items = append(t.Items, impl.Item{Piece: impl.Piece{Off: first + k, Len: 1, Breaks: k % 2}, Level: level})
	}
	return t
}

// written reads a tree as spell writes it, of pieces of one rune without breaks: "1:1 2:0 3:1".
func written(t *testing.T, text string) impl.Tree {
	t.Helper()
	var tree impl.Tree
	for word := range strings.FieldsSeq(text) {
		off, level, _ := strings.Cut(word, ":")
		a, err1 := strconv.Atoi(off)
		b, err2 := strconv.Atoi(level)
		if err1 != nil || err2 != nil {
			t.Fatalf("the test's own tree can't be read: %q", text)
		}
		tree.Items = append(tree.Items, impl.Item{Piece: impl.Piece{Off: a, Len: 1}, Level: b})
	}
	return tree
}

func piecesOf(t impl.Tree) []impl.Piece {
	var pieces []impl.Piece
	for _, it := range t.Items {
		pieces = append(pieces, it.Piece)
	}
	return pieces
}

// wantTree holds an answer with code 0 against the model's shape and the plain list, and asks that it be valid.
func wantTree(t *testing.T, what string, got impl.Tree, code int, want *modelNode, list []impl.Piece) {
	t.Helper()
	if code != impl.OK {
		t.Errorf("%s: code %d", what, code)
		return
	}
	wantShape(t, what, got, want.tree())
	wantSame(t, what+": pieces", piecesOf(got), list)
	if !modelValid(got) {
		t.Errorf("%s: %s is not valid", what, spell(got))
	}
}

func wantShape(t *testing.T, what string, got, want impl.Tree) {
	t.Helper()
	if len(got.Items) != len(want.Items) {
		t.Errorf("%s: %d items, want %d", what, len(got.Items), len(want.Items))
		return
	}
	for k := range got.Items {
		if got.Items[k] != want.Items[k] {
			t.Errorf("%s: %s, want %s (rank %d)", what, spell(got), spell(want), k)
			return
		}
	}
}

// wantRefused asks for a code and nothing else in the answer.
func wantRefused(t *testing.T, what string, code, want int, trees ...impl.Tree) {
	t.Helper()
	if code != want {
		t.Errorf("%s: code %d, want %d", what, code, want)
	}
	for _, tree := range trees {
		if len(tree.Items) != 0 {
			t.Errorf("%s: code %d beside %s", what, code, spell(tree))
		}
	}
}
