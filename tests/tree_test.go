package tests

import (
	"fmt"
	"slices"
	"testing"

	"loop.example/s01685/impl"
)

// Promise 3: the place of the new leaf, and each of the four turns, by hand.
func TestInsertByHand(t *testing.T) {
	for _, c := range []struct {
		name, in string
		rank     int
		want     string
	}{
		{"into an empty tree", "", 0, "9:0"},
		{"before a root", "1:0", 0, "9:1 1:0"},
		{"behind a root", "1:0", 1, "1:0 9:1"},
		{"left child of the item that had the rank", "1:1 2:0 3:1", 2, "1:1 2:0 9:2 3:1"},
		{"right child of the item before", "1:1 2:0 3:1", 1, "1:1 9:2 2:0 3:1"},
		{"right child of the last item", "1:1 2:0 3:1", 3, "1:1 2:0 3:1 9:2"},
		{"first of all", "1:1 2:0 3:1", 0, "9:2 1:1 2:0 3:1"},
		{"turn right", "1:1 2:0", 0, "9:1 1:0 2:1"},
		{"turn left, then right", "1:1 2:0", 1, "1:1 9:0 2:1"},
		{"turn left", "1:0 2:1", 2, "1:1 2:0 9:1"},
		{"turn right, then left", "1:0 2:1", 1, "1:1 9:0 2:1"},
		{"turn right with a subtree", "1:2 2:1 3:2 4:0 5:1", 0, "9:2 1:1 2:0 3:2 4:1 5:2"},
		{"turn left with a subtree", "1:1 2:0 3:2 4:1 5:2", 5, "1:2 2:1 3:2 4:0 5:1 9:2"},
		{"turn left, then right, with subtrees", "1:2 2:1 3:2 4:0 5:1", 3, "1:2 2:1 3:0 9:2 4:1 5:2"},
		{"turn right, then left, with subtrees", "1:1 2:0 3:2 4:1 5:2", 2, "1:2 2:1 9:2 3:0 4:1 5:2"},
		{"turn below the root", "1:1 2:0 3:1 4:2", 4, "1:1 2:0 3:2 4:1 9:2"},
	} {
		got, code := impl.TreeInsert(written(t, c.in), c.rank, impl.Piece{Off: 9, Len: 1})
		if code != impl.OK {
			t.Errorf("%s: code %d", c.name, code)
		}
		wantShape(t, c.name, got, written(t, c.want))
	}
}

// Promise 3: which node gives its piece, and the turns of the repair, by hand.
func TestDeleteByHand(t *testing.T) {
	for _, c := range []struct {
		name, in string
		rank     int
		want     string
	}{
		{"the only item", "1:0", 0, ""},
		{"a leaf", "1:1 2:0 3:1", 2, "1:1 2:0"},
		{"a root with a left child", "1:1 2:0", 1, "1:0"},
		{"a root with a right child", "1:0 2:1", 0, "2:0"},
		{"a node with a left child", "1:2 2:1 3:0 4:1", 1, "1:1 3:0 4:1"},
		{"a node with a right child", "1:1 2:2 3:0 4:1", 0, "2:1 3:0 4:1"},
		{"two children, the next item is the right child", "1:1 2:0 3:1", 1, "1:1 3:0"},
		{"two children, the right child has a right one", "1:1 2:0 3:1 4:2", 1, "1:1 3:0 4:1"},
		{"two children, the next item is deeper", "1:1 2:0 3:2 4:1", 1, "1:1 3:0 4:1"},
		{"two children, the next item has a right child", "1:2 2:1 3:2 4:0 5:2 6:3 7:1 8:2", 3, "1:2 2:1 3:2 5:0 6:2 7:1 8:2"},
		{"repair at the node itself", "1:2 2:1 3:2 4:0 5:1", 3, "1:1 2:0 3:2 5:1"},
		{"left side higher, L's sides equal", "1:2 2:1 3:2 4:0 5:1", 4, "1:1 2:0 3:2 4:1"},
		{"left side higher, L's left one higher", "1:2 2:1 3:0 4:1", 3, "1:1 2:0 3:1"},
		{"left side higher, L's right one higher", "1:1 2:2 3:0 4:1", 3, "1:1 2:0 3:1"},
		{"right side higher, R's sides equal", "1:1 2:0 3:2 4:1 5:2", 0, "2:1 3:2 4:0 5:1"},
		{"right side higher, R's right one higher", "1:1 2:0 3:1 4:2", 0, "2:1 3:0 4:1"},
		{"right side higher, R's left one higher", "1:1 2:0 3:2 4:1", 0, "2:1 3:0 4:1"},
		{"two turns, the second at the root",
			"1:3 2:2 3:3 4:1 5:3 6:2 7:0 8:1 9:2", 7, "1:2 2:1 3:2 4:0 5:3 6:2 7:1 9:2"},
		{"two turns, both sides told",
			"1:2 2:1 3:0 4:3 5:2 6:3 7:1 8:3 9:2 10:3", 0, "2:2 3:1 4:3 5:2 6:3 7:0 8:2 9:1 10:2"},
	} {
		got, code := impl.TreeDelete(written(t, c.in), c.rank)
		if code != impl.OK {
			t.Errorf("%s: code %d", c.name, code)
		}
		wantShape(t, c.name, got, written(t, c.want))
	}
}

// Promise 3: where JOIN puts the piece, and what a split makes of the parts, by hand.
func TestJoinAndSplitByHand(t *testing.T) {
	for _, c := range []struct{ name, a, b, want string }{
		{"nothing with nothing", "", "", ""},
		{"nothing before", "", "1:1 2:0", "1:1 2:0"},
		{"nothing behind", "1:0 2:1", "", "1:0 2:1"},
		{"two single ones", "1:0", "2:0", "1:1 2:0"},
		{"equal heights", "1:1 2:0 3:1", "4:1 5:0 6:1", "1:2 2:1 3:2 4:0 5:1 6:2"},
		{"the first one higher by one", "1:1 2:0 3:1", "4:0 5:1", "1:2 2:1 3:2 4:0 5:1"},
		{"the first one higher, the place is a leaf", "1:1 2:0 3:1", "4:0", "1:1 2:0 3:2 4:1"},
		{"the first one higher, the place is empty", "1:1 2:0", "3:0", "1:1 2:0 3:1"},
		{"the first one higher, with a turn", "1:1 2:0 3:2 4:1 5:2", "6:0", "1:2 2:1 3:2 4:0 5:2 6:1"},
		{"the second one higher, the place is a leaf", "1:0", "2:2 3:1 4:0 5:1 6:2", "1:2 2:1 3:2 4:0 5:1 6:2"},
		{"the second one higher, with two turns", "1:0", "2:2 3:1 4:2 5:0 6:1", "1:2 2:1 3:0 4:2 5:1 6:2"},
	} {
		got, code := impl.TreeJoin(written(t, c.a), written(t, c.b))
		if code != impl.OK {
			t.Errorf("%s: code %d", c.name, code)
		}
		wantShape(t, c.name, got, written(t, c.want))
	}
	for _, c := range []struct {
		in   string
		rank int
		x, y string
	}{
		{"", 0, "", ""},
		{"1:0", 0, "", "1:0"},
		{"1:0", 1, "1:0", ""},
		{"1:1 2:0 3:1", 0, "", "1:1 2:0 3:1"},
		{"1:1 2:0 3:1", 1, "1:0", "2:0 3:1"},
		{"1:1 2:0 3:1", 2, "1:1 2:0", "3:0"},
		{"1:1 2:0 3:1", 3, "1:1 2:0 3:1", ""},
	} {
		x, y, code := impl.TreeSplit(written(t, c.in), c.rank)
		what := fmt.Sprintf("splitting %s at %d", c.in, c.rank)
		if code != impl.OK {
			t.Errorf("%s: code %d", what, code)
		}
		wantShape(t, what+", first", x, written(t, c.x))
		wantShape(t, what+", second", y, written(t, c.y))
	}
}

// greatTrees are the shapes that the exhaustive tests don't come to.
func greatTrees(first int) []impl.Tree {
	var trees []impl.Tree
	for _, height := range []int{5, 6, 7, 8} {
		trees = append(trees, treeOf(fullShape(height), first), treeOf(sparseShape(height, true), first),
			treeOf(sparseShape(height, false), first))
	}
	return append(trees, treeOf(evenShape(100), first), treeOf(evenShape(777), first))
}

func smallTrees(first int) []impl.Tree {
	var trees []impl.Tree
	for _, levels := range shapesUpTo(4) {
		trees = append(trees, treeOf(levels, first))
	}
	return trees
}

// Promise 3: insertion at every rank of all balanced trees of up to four levels and of greater ones.
func TestInsertEveryRank(t *testing.T) {
	p := pieceNumber(5000)
	for _, in := range append(smallTrees(0), greatTrees(0)...) {
		for rank := range len(in.Items) + 1 {
			got, code := impl.TreeInsert(in, rank, p)
			what := fmt.Sprintf("inserting at %d of %s", rank, spell(in))
			wantTree(t, what, got, code, modelInsert(modelOf(t, in), rank, p), slices.Insert(piecesOf(in), rank, p))
		}
	}
}

// Promise 3: deletion of every item of the same trees.
func TestDeleteEveryRank(t *testing.T) {
	for _, in := range append(smallTrees(0), greatTrees(0)...) {
		for rank := range in.Items {
			got, code := impl.TreeDelete(in, rank)
			what := fmt.Sprintf("deleting %d of %s", rank, spell(in))
			wantTree(t, what, got, code, modelDelete(modelOf(t, in), rank), slices.Delete(piecesOf(in), rank, rank+1))
		}
	}
}

// Promise 3: in the sparsest tree the repair of one deletion turns at every second level, up to the root.
func TestDeleteRepairsUpToTheRoot(t *testing.T) {
	for height := 3; height <= 15; height++ {
		for _, leftHigh := range []bool{true, false} {
			in := singles(sparseShape(height, leftHigh), 0)
			rank := 0
			if leftHigh {
				rank = len(in.Items) - 1
			}
			got, code := impl.TreeDelete(in, rank)
			what := fmt.Sprintf("deleting the lowest end of height %d", height)
			after := modelDelete(modelOf(t, in), rank)
			if after.height() != height-1 {
				t.Fatalf("%s: the model's height is %d", what, after.height())
			}
			wantTree(t, what, got, code, after, slices.Delete(piecesOf(in), rank, rank+1))
		}
	}
}

// Promise 3: splits at every rank of the same trees, both ends too.
func TestSplitEveryRank(t *testing.T) {
	for _, in := range append(smallTrees(0), greatTrees(0)...) {
		list := piecesOf(in)
		for rank := range len(list) + 1 {
			x, y, code := impl.TreeSplit(in, rank)
			what := fmt.Sprintf("splitting at %d of %s", rank, spell(in))
			wantX, wantY := modelSplit(modelOf(t, in), rank)
			wantTree(t, what+", first", x, code, wantX, list[:rank])
			wantTree(t, what+", second", y, code, wantY, list[rank:])
		}
	}
}

func wantJoined(t *testing.T, a, b impl.Tree) {
	t.Helper()
	got, code := impl.TreeJoin(a, b)
	what := fmt.Sprintf("joining %s and %s", spell(a), spell(b))
	wantTree(t, what, got, code, modelJoin(modelOf(t, a), modelOf(t, b)), slices.Concat(piecesOf(a), piecesOf(b)))
}

// Promise 3: joins of all pairs of small trees, the empty one too.
func TestJoinSmallTrees(t *testing.T) {
	for _, a := range shapesUpTo(3) {
		for _, b := range shapesUpTo(4) {
			wantJoined(t, treeOf(a, 0), treeOf(b, 100))
			wantJoined(t, treeOf(b, 0), treeOf(a, 100))
		}
	}
}

// Promise 3: joins of trees of equal and of very different heights, either one the higher one.
func TestJoinGreatTrees(t *testing.T) {
	var shapes [][]int
	for height := range 11 {
		shapes = append(shapes, fullShape(height), sparseShape(height, true), sparseShape(height, false))
	}
	shapes = append(shapes, sparseShape(14, true), sparseShape(14, false), evenShape(1000))
	for _, a := range shapes {
		for _, b := range shapes {
			wantJoined(t, singles(a, 0), singles(b, 10000))
		}
	}
}

// Promise 3: a long run of calls, each on the answer of the one before, stays with the model and the plain list.
func TestTreesGrowAndShrink(t *testing.T) {
	ranks := []func(k, n int) int{
		func(k, n int) int { return 0 },
		func(k, n int) int { return n },
		func(k, n int) int { return n / 2 },
		func(k, n int) int { return k * 7919 % (n + 1) },
	}
	for number, rankOf := range ranks {
		var tree impl.Tree
		var list []impl.Piece
		for k := range 300 {
			rank, p := rankOf(k, len(list)), pieceNumber(k)
			got, code := impl.TreeInsert(tree, rank, p)
			list = slices.Insert(list, rank, p)
			wantTree(t, fmt.Sprintf("run %d, insertion %d", number, k), got, code, modelInsert(modelOf(t, tree), rank, p), list)
			tree = got
		}
		for k := range 300 {
			rank := rankOf(k, len(list)-1)
			got, code := impl.TreeDelete(tree, rank)
			list = slices.Delete(list, rank, rank+1)
			wantTree(t, fmt.Sprintf("run %d, deletion %d", number, k), got, code, modelDelete(modelOf(t, tree), rank), list)
			tree = got
		}
	}
}

// Promise 3: trees of MaxText items, the most that there can be.
func TestTreesOfMaxText(t *testing.T) {
	full := singles(evenShape(impl.MaxText), 0)
	list := piecesOf(full)
	for _, rank := range []int{0, 1, 2047, 4096, 8190, 8191, 8192} {
		x, y, code := impl.TreeSplit(full, rank)
		what := fmt.Sprintf("splitting at %d of MaxText", rank)
		wantX, wantY := modelSplit(modelOf(t, full), rank)
		wantTree(t, what+", first", x, code, wantX, list[:rank])
		wantTree(t, what+", second", y, code, wantY, list[rank:])
		wantJoined(t, x, y)
	}
	less, code := impl.TreeDelete(full, 4000)
	wantTree(t, "deleting of MaxText", less, code, modelDelete(modelOf(t, full), 4000), slices.Delete(slices.Clone(list), 4000, 4001))
	p := impl.Piece{Off: 9000, Len: 1}
	got, code := impl.TreeInsert(less, 8191, p)
	wantTree(t, "inserting up to MaxText", got, code, modelInsert(modelOf(t, less), 8191, p),
		append(slices.Delete(slices.Clone(list), 4000, 4001), p))
}
