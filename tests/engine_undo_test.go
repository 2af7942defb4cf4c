package tests

import (
	"fmt"
	"slices"
	"testing"

	"loop.example/s01685/impl"
)

// story is a script that is being written, with a model that follows it.
type story struct {
	s      *scribe
	script []impl.Op
}

func newStory(t *testing.T, seed int, opening []impl.Op, hcap int) *story {
	st := &story{s: &scribe{dice(seed), newModel(t, hcap), nil}}
	st.s.e.plain = true
	st.add(opening...)
	return st
}

func (st *story) add(ops ...impl.Op) {
	for _, op := range ops {
		st.s.e.step(op)
		st.script = append(st.script, op)
	}
}

// dump tells text and marks, and answers where.
func (st *story) dump() int {
	st.add(opDump())
	return len(st.script) - 1
}

// edit makes an edit that can be made.
func (st *story) edit() {
	length := len(st.s.e.text)
	off := st.s.roll(length + 1)
	if length > 40 || off < length && st.s.roll(2) == 0 {
		lo := min(off, length-1)
		st.add(opDelete(lo, min(length, lo+1+st.s.roll(6))))
		return
	}
	st.add(opInsert(off, putBytes[1+st.s.roll(len(putBytes)-1)]))
}

// group makes a group of edits, with nothing that makes or drops a mark in it.
func (st *story) group(edits int) {
	if edits == 1 && st.s.roll(2) == 0 {
		st.edit()
		return
	}
	others := []impl.Op{opLineCol(0), opSlice(0, 1), opLook(3), opInsert(0, ""), opDelete(0, 0), opBegin(), opUndo(), opSnap(1), opMark(3, -1, 0)}
	st.add(opBegin())
	for range edits {
		st.edit()
		st.add(others[st.s.roll(len(others))])
	}
	st.add(opEnd())
}

// dressed is a text with marks of both gravities at every third place and several at one.
func dressed() []impl.Op {
	script := []impl.Op{opInsert(0, "ab\ncdefg\n\nhijklm\nnopqrstu\n")}
	for k := range 9 {
		script = append(script, opMark(k, 3*k, 0), opMark(-1-k, 3*k, 1), opMark(100+k, 12, k%2))
	}
	return script
}

// wantTold asks that two Dumps tell the same, in both engines.
func wantTold(t *testing.T, what string, got runs, a, b int) {
	t.Helper()
	for name, obs := range map[string][]impl.Obs{"pieces": got.piece.Obs, "lines": got.line.Obs} {
		if obs[a].Code != impl.OK || obs[b].Code != impl.OK {
			t.Errorf("%s, %s: Dumps %d and %d are refused", what, name, a, b)
		}
		wantSame(t, fmt.Sprintf("%s, %s, text of Dumps %d and %d", what, name, b, a), obs[b].Text, obs[a].Text)
		wantSame(t, fmt.Sprintf("%s, %s, marks of Dumps %d and %d", what, name, b, a), obs[b].Marks, obs[a].Marks)
	}
}

// Promise 13: a group of one edit or of several is undone and done again, twice.
func TestGroupUndoneAndDoneAgain(t *testing.T) {
	for seed := range 300 {
		st := newStory(t, seed, dressed(), 50)
		for range seed % 4 {
			st.edit()
		}
		before := st.dump()
		st.group(1 + seed%5)
		after := st.dump()
		var told []int
		for range 2 {
			st.add(opUndo())
			told = append(told, st.dump())
			st.add(opRedo())
			told = append(told, st.dump())
		}
		got := runBoth(st.script, 50)
		for k, at := range told {
			wantTold(t, fmt.Sprintf("seed %d", seed), got, []int{before, after}[k%2], at)
		}
		if t.Failed() {
			return
		}
		wantRuns(t, fmt.Sprintf("seed %d", seed), st.script, 50)
	}
}

// Promise 13: several groups in a row are undone one by one and done again one by one, also behind a snapshot was taken
// and gone back to.
func TestManyGroupsUndoneAndDoneAgain(t *testing.T) {
	for seed := range 60 {
		st := newStory(t, 1000+seed, dressed(), 50)
		states := []int{st.dump()}
		for range 2 + seed%7 {
			st.group(1 + st.s.roll(4))
			states = append(states, st.dump())
		}
		last := len(states) - 1
		var pairs [][2]int
		walk := func() {
			for k := last - 1; k >= 0; k-- {
				st.add(opUndo())
				pairs = append(pairs, [2]int{states[k], st.dump()})
			}
			for k := 1; k <= last; k++ {
				st.add(opRedo())
				pairs = append(pairs, [2]int{states[k], st.dump()})
			}
		}
		walk()
		st.add(opSnap(4))
		st.edit()
		st.add(opDrop(3), opMark(300, 0, 1), opUndo(), opUndo(), opDrop(-2))
		st.edit()
		st.add(opBack(4))
		pairs = append(pairs, [2]int{states[last], st.dump()})
		walk()
		st.add(opUndo(), opUndo(), opSnap(5), opBack(4), opBack(5))
		pairs = append(pairs, [2]int{states[last-2], st.dump()})
		st.add(opRedo(), opRedo())
		pairs = append(pairs, [2]int{states[last], st.dump()})
		got := runBoth(st.script, 50)
		for _, pair := range pairs {
			wantTold(t, fmt.Sprintf("seed %d", seed), got, pair[0], pair[1])
		}
		if t.Failed() {
			return
		}
		wantRuns(t, fmt.Sprintf("seed %d", seed), st.script, 50)
	}
}

// Promise 13: every edit of a short text with marks at all places is undone and done again.
func TestEveryEditUndone(t *testing.T) {
	opening := []impl.Op{opInsert(0, "ab\nc")}
	for off := range 5 {
		opening = append(opening, opMark(10-off, off, off%2), opMark(20+off, off, 1-off%2))
	}
	var edits []impl.Op
	for lo := range 5 {
		edits = append(edits, opInsert(lo, "x"), opInsert(lo, "\nyz"))
		for hi := lo + 1; hi < 5; hi++ {
			edits = append(edits, opDelete(lo, hi))
		}
	}
	for _, edit := range edits {
		script := append(slices.Clone(opening), opDump(), edit, opDump(), opUndo(), opDump(), opRedo(), opDump())
		got := runBoth(script, 5)
		at := len(opening)
		wantTold(t, spellOp(edit)+" undone", got, at, at+4)
		wantTold(t, spellOp(edit)+" done again", got, at+2, at+6)
		wantRuns(t, spellOp(edit), script, 5)
	}
}

// Chapter 7, by hand: what becomes at the Undo of marks that were made, dropped, and dropped and made again between an edit
// and its undo.
func TestMarksBetweenEditAndUndo(t *testing.T) {
	wantSteps(t, "a deletion", 5, []stepSeen{
		{opInsert(0, "abcdef"), ""}, {opMark(1, 3, 0), ""}, {opMark(2, 3, 1), ""}, {opMark(3, 2, 0), ""}, {opMark(4, 5, 1), ""},
		{opDelete(2, 5), "0 3 0, 3 1 2 0 0"},
		{opDump(), "0 0 0, 3 1 2 0 0 :abf 1@2L 2@2R 3@2L 4@2R"},
		{opMark(9, 2, 1), ""}, {opMark(8, 2, 0), ""},
		{opDrop(2), "0 2 0, 3 1 2 0 0"},
		{opDrop(1), "0 2 0, 3 1 2 0 0"}, {opMark(1, 0, 1), ""},
		{opUndo(), "0 1 0, 6 1 1 1 0"},
		{opDump(), "0 0 0, 6 1 1 1 0 :abcdef 3@2L 8@2L 1@3R 4@5R 9@5R"},
		{opRedo(), "0 1 0, 3 1 2 0 0"},
		{opDump(), "0 0 0, 3 1 2 0 0 :abf 1@2R 3@2L 4@2R 8@2L 9@2R"},
		{opDrop(4), "0 2 0, 3 1 2 0 0"}, {opMark(2, 3, 0), ""},
		{opUndo(), "0 1 0, 6 1 1 1 0"},
		{opDump(), "0 0 0, 6 1 1 1 0 :abcdef 3@2L 8@2L 1@3R 2@3L 9@5R"},
	})
	wantSteps(t, "an insertion", 5, []stepSeen{
		{opInsert(0, "abcdef"), ""}, {opMark(1, 2, 0), ""}, {opMark(2, 2, 1), ""},
		{opInsert(2, "XYZ"), "0 3 0, 9 1 2 0 0"},
		{opMark(5, 4, 0), ""}, {opMark(6, 4, 1), ""}, {opMark(7, 9, 0), ""},
		{opDump(), "0 0 0, 9 1 2 0 0 :abXYZcdef 1@2L 5@4L 6@4R 2@5R 7@9L"},
		{opUndo(), "0 1 0, 6 1 1 1 0"},
		{opDump(), "0 0 0, 6 1 1 1 0 :abcdef 1@2L 2@2R 5@2L 6@2R 7@6L"},
		{opDrop(1), ""}, {opDrop(2), ""}, {opMark(1, 6, 1), ""},
		{opRedo(), "0 1 0, 9 1 2 0 0"},
		{opDump(), "0 0 0, 9 1 2 0 0 :abXYZcdef 1@2R 5@2L 6@5R 7@9L"},
	})
	wantSteps(t, "a group with marks made in it", 5, []stepSeen{
		{opBegin(), ""}, {opInsert(0, "ab"), ""}, {opMark(1, 1, 0), ""}, {opInsert(1, "x"), ""}, {opMark(2, 3, 1), ""}, {opDelete(0, 2), ""},
		{opEnd(), "0 3 0, 1 1 1 0 0"},
		{opDump(), "0 0 0, 1 1 1 0 0 :b 1@0L 2@1R"},
		{opUndo(), "0 3 0, 0 1 0 1 0"},
		{opDump(), "0 0 0, 0 1 0 1 0 1@0L 2@0R"},
		{opRedo(), "0 3 0, 1 1 1 0 0"},
		{opDump(), "0 0 0, 1 1 1 0 0 :b 1@0L 2@1R"},
	})
	wantSteps(t, "offsets of a table that a later record changes", 5, []stepSeen{
		{opInsert(0, "abcdef"), ""}, {opMark(1, 4, 1), ""},
		{opBegin(), ""}, {opDelete(2, 5), ""}, {opInsert(2, "-"), ""}, {opDelete(0, 3), ""}, {opEnd(), "0 3 0, 1 1 2 0 0"},
		{opLook(1), "0 0 1, 1 1 2 0 0"},
		{opMark(2, 1, 0), ""}, {opDrop(1), ""}, {opMark(1, 1, 0), ""},
		{opUndo(), "0 3 0, 6 1 1 1 0"},
		{opDump(), "0 0 0, 6 1 1 1 0 :abcdef 1@4L 2@6L"},
	})
}

// Chapter 7: marks made and dropped at any time between edits, undos and redos, against the model.
func TestMarksMadeAndDroppedOnTheWay(t *testing.T) {
	for seed := range 150 {
		st := newStory(t, 2000+seed, dressed(), 50)
		for range 40 {
			id := st.s.roll(12) - 3
			switch st.s.roll(8) {
			case 0, 1:
				st.group(1 + st.s.roll(3))
			case 2, 3:
				st.add(opUndo())
			case 4:
				st.add(opRedo())
			case 5:
				st.add(opDrop(id))
			case 6:
				st.add(opDrop(id), opMark(id, st.s.roll(len(st.s.e.text)+1), st.s.roll(2)))
			case 7:
				st.add(opMark(id, st.s.roll(len(st.s.e.text)+1), st.s.roll(2)), opDump())
			}
		}
		wantRuns(t, fmt.Sprintf("seed %d", seed), append(st.script, opDump()), 50)
		if t.Failed() {
			return
		}
	}
}
