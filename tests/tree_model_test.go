package tests

import (
	"slices"
	"strconv"
	"strings"
	"testing"

	"loop.example/s01685/impl"
)

// The model of a tree: nodes that know their parents, with heights that are counted anew each time, repaired by walking
// up from a place. It follows chapter 3 word by word and shares no thought with the program.
type modelNode struct {
	piece           impl.Piece
	up, left, right *modelNode
}

func (n *modelNode) height() int {
	if n == nil {
		return 0
	}
	return 1 + max(n.left.height(), n.right.height())
}

func (n *modelNode) level() int {
	level := 0
	for ; n.up != nil; n = n.up {
		level++
	}
	return level
}

// list is the nodes in order.
func (n *modelNode) list() []*modelNode {
	if n == nil {
		return nil
	}
	return slices.Concat(n.left.list(), []*modelNode{n}, n.right.list())
}

func (n *modelNode) setLeft(child *modelNode) {
	n.left = child
	if child != nil {
		child.up = n
	}
}

func (n *modelNode) setRight(child *modelNode) {
	n.right = child
	if child != nil {
		child.up = n
	}
}

// replace puts other, which may be nil, into the place of n.
func (n *modelNode) replace(other *modelNode) {
	up := n.up
	n.up = nil
	switch {
	case up == nil:
		if other != nil {
			other.up = nil
		}
	case up.left == n:
		up.setLeft(other)
	default:
		up.setRight(other)
	}
}

func (n *modelNode) modelTurnRight() {
	l := n.left
	n.setLeft(nil)
	n.replace(l)
	n.setLeft(l.right)
	l.setRight(n)
}

func (n *modelNode) modelTurnLeft() {
	r := n.right
	n.setRight(nil)
	n.replace(r)
	n.setRight(r.left)
	r.setLeft(n)
}

// modelRepair repairs from a place up and tells the root.
func modelRepair(at *modelNode) *modelNode {
	for {
		switch at.left.height() - at.right.height() {
		case 2:
			if l := at.left; l.left.height() < l.right.height() {
				l.modelTurnLeft()
			}
			at.modelTurnRight()
			at = at.up
		case -2:
			if r := at.right; r.right.height() < r.left.height() {
				r.modelTurnRight()
			}
			at.modelTurnLeft()
			at = at.up
		}
		if at.up == nil {
			return at
		}
		at = at.up
	}
}

func modelInsert(root *modelNode, rank int, p impl.Piece) *modelNode {
	list := root.list()
	leaf := &modelNode{piece: p}
	switch {
	case len(list) == 0:
		return leaf
	case rank < len(list) && list[rank].left == nil:
		list[rank].setLeft(leaf)
	default:
		list[rank-1].setRight(leaf)
	}
	return modelRepair(leaf.up)
}

func modelDelete(root *modelNode, rank int) *modelNode {
	list := root.list()
	n := list[rank]
	if n.left != nil && n.right != nil {
		next := list[rank+1]
		n.piece = next.piece
		n = next
	}
	child := n.left
	if child == nil {
		child = n.right
	}
	up := n.up
	n.replace(child)
	if up == nil {
		return child
	}
	return modelRepair(up)
}

// modelSplice is JOIN.
func modelSplice(a *modelNode, p impl.Piece, b *modelNode) *modelNode {
	n := &modelNode{piece: p}
	c, rightwards := (*modelNode)(nil), a.height() > b.height()
	var up *modelNode
	switch d := a.height() - b.height(); {
	case -1 <= d && d <= 1:
		n.setLeft(a)
		n.setRight(b)
		return n
	case rightwards:
		for c = a; c.height() > b.height()+1; c = c.right {
			up = c
		}
		up.setRight(n)
		n.setLeft(c)
		n.setRight(b)
	default:
		for c = b; c.height() > a.height()+1; c = c.left {
			up = c
		}
		up.setLeft(n)
		n.setLeft(a)
		n.setRight(c)
	}
	return modelRepair(up)
}

func modelJoin(a, b *modelNode) *modelNode {
	if a == nil {
		return b
	}
	if b == nil {
		return a
	}
	p := b.list()[0].piece
	return modelSplice(a, p, modelDelete(b, 0))
}

func modelSplit(root *modelNode, rank int) (x, y *modelNode) {
	if root == nil {
		return nil, nil
	}
	l, r := root.left, root.right
	for _, child := range []*modelNode{l, r} {
		if child != nil {
			child.up = nil
		}
	}
	n := len(l.list())
	if rank <= n {
		x, y = modelSplit(l, rank)
		return x, modelSplice(y, root.piece, r)
	}
	x, y = modelSplit(r, rank-n-1)
	return modelSplice(l, root.piece, x), y
}

// modelShape makes nodes of a stretch of items with its root at a level, or tells that they are no such tree.
func modelShape(items []impl.Item, level int) (*modelNode, bool) {
	if len(items) == 0 {
		return nil, true
	}
	roots, at := 0, 0
	for k, it := range items {
		if it.Level < level {
			return nil, false
		}
		if it.Level == level {
			roots, at = roots+1, k
		}
	}
	if roots != 1 {
		return nil, false
	}
	left, ok1 := modelShape(items[:at], level+1)
	right, ok2 := modelShape(items[at+1:], level+1)
	n := &modelNode{piece: items[at].Piece}
	n.setLeft(left)
	n.setRight(right)
	return n, ok1 && ok2
}

func modelPieceValid(p impl.Piece) bool {
	if p.Off < 0 || p.Len < 1 || p.Breaks < 0 || p.Off > impl.MaxStore || p.Len > impl.MaxText {
		return false
	}
	return p.Off+p.Len <= impl.MaxStore && p.Breaks <= p.Len
}

func modelValid(t impl.Tree) bool {
	total := 0
	for _, it := range t.Items {
		if !modelPieceValid(it.Piece) || total > impl.MaxText {
			return false
		}
		total += it.Piece.Len
	}
	root, ok := modelShape(t.Items, 0)
	if !ok || total > impl.MaxText {
		return false
	}
	for _, n := range root.list() {
		if d := n.left.height() - n.right.height(); d < -1 || d > 1 {
			return false
		}
	}
	return true
}

// modelOf makes the model of a tree that the test knows to be one.
func modelOf(t *testing.T, tree impl.Tree) *modelNode {
	t.Helper()
	root, ok := modelShape(tree.Items, 0)
	if !ok {
		t.Fatalf("the test's own tree is none: %s", spell(tree))
	}
	return root
}

func (n *modelNode) tree() impl.Tree {
	var t impl.Tree
	for _, m := range n.list() {
		t.Items = append(t.Items, impl.Item{Piece: m.piece, Level: m.level()})
	}
	return t
}

// spell writes a tree out: offset, length and breaks of each piece that isn't just one rune, and its level.
func spell(t impl.Tree) string {
	var b strings.Builder
	for k, it := range t.Items {
		if k == 40 {
			b.WriteString(" ..")
			break
		}
		b.WriteString(" " + strconv.Itoa(it.Piece.Off))
		if it.Piece.Len != 1 || it.Piece.Breaks != 0 {
			b.WriteString("+" + strconv.Itoa(it.Piece.Len) + "/" + strconv.Itoa(it.Piece.Breaks))
		}
		b.WriteString(":" + strconv.Itoa(it.Level))
	}
	return "[" + strings.TrimPrefix(b.String(), " ") + "]"
}
