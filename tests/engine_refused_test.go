package tests

import (
	"fmt"
	"slices"
	"testing"

	"loop.example/s01685/impl"
)

// refusal is an operation that must be refused, with its code.
type refusal struct {
	op   impl.Op
	code int
}

// each makes refusals of operations with one code.
func each(code int, ops ...impl.Op) []refusal {
	var list []refusal
	for _, op := range ops {
		list = append(list, refusal{op, code})
	}
	return list
}

// refusals are operations of all kinds that can't be done where the model stands, by each of their faults.
func refusals(e *modelEngine) []refusal {
	return slices.Concat(textRefusals(e), markRefusals(e), groupRefusals(e), spentRefusals(e),
		each(impl.ErrKind, impl.Op{}, impl.Op{Kind: 17, Text: []byte("x")}, impl.Op{Kind: -1}, impl.Op{Kind: extremes[0], A: 1}))
}

func textRefusals(e *modelEngine) []refusal {
	length, lines := len(e.text), linesOf(e.text)
	last := len(lines) - 1
	list := slices.Concat(
		each(impl.ErrRange, opInsert(-1, "x"), opInsert(length+1, "x"), opInsert(length+1, ""), opInsert(-1, ofBytes(9000))),
		each(impl.ErrFull, opInsert(0, ofBytes(impl.MaxText-length+1)), opInsert(length, ofBytes(9000))),
		each(impl.ErrRange, opDelete(-1, 0), opDelete(0, length+1), opDelete(length+1, length+1), opDelete(-2, -1)),
		each(impl.ErrRange, opSlice(-1, 0), opSlice(0, length+1), opSlice(length+1, length+1), opSlice(-2, -1)),
		each(impl.ErrRange, opLineCol(-1), opLineCol(length+1)),
		each(impl.ErrPlace, opOffset(-1, 0), opOffset(last+1, 0), opOffset(0, -1), opOffset(0, len(lines[0])+1), opOffset(last, len(lines[last])+1)))
	if length > 0 {
		list = append(list, each(impl.ErrRange, opDelete(1, 0), opSlice(length, length-1))...)
	}
	for _, x := range extremes {
		list = append(list, each(impl.ErrRange, opInsert(x, "x"), opDelete(0, x), opDelete(x, x), opSlice(x, -x), opLineCol(x))...)
		list = append(list, each(impl.ErrPlace, opOffset(x, 0), opOffset(0, x))...)
	}
	return list
}

func markRefusals(e *modelEngine) []refusal {
	length := len(e.text)
	list := slices.Concat(
		each(impl.ErrValue, opMark(500, 0, 2), opMark(500, -1, -1), opMark(impl.MaxId+1, 0, 0), opMark(-impl.MaxId-1, length+1, 1)),
		each(impl.ErrRange, opMark(500, length+1, 0), opMark(500, -1, 1)),
		each(impl.ErrUnknown, opDrop(500), opLook(500), opDrop(extremes[0]), opLook(impl.MaxId+1)))
	for _, m := range e.marks {
		list = append(list, each(impl.ErrTaken, opMark(m.Id, 0, 0), opMark(m.Id, length+1, 1))...)
		list = append(list, each(impl.ErrValue, opMark(m.Id, length+1, 2))...)
	}
	if len(e.marks) == impl.MaxMarks {
		list = append(list, each(impl.ErrFull, opMark(500, 0, 0))...)
	}
	return list
}

func groupRefusals(e *modelEngine) []refusal {
	if e.open {
		return slices.Concat(each(impl.ErrNested, opBegin()),
			each(impl.ErrOpen, opUndo(), opRedo(), opSnap(0), opBack(0), opSnap(99), opBack(-1)))
	}
	list := slices.Concat(each(impl.ErrNoGroup, opEnd()),
		each(impl.ErrSlot, opSnap(-1), opSnap(impl.Slots), opBack(-1), opBack(impl.Slots), opSnap(extremes[0]), opBack(extremes[0])))
	for slot := range impl.Slots {
		if _, there := e.slots[slot]; !there {
			list = append(list, each(impl.ErrSlot, opBack(slot))...)
		}
	}
	if len(e.undo) == 0 {
		list = append(list, each(impl.ErrEmpty, opUndo())...)
	}
	if len(e.redo) == 0 {
		list = append(list, each(impl.ErrEmpty, opRedo())...)
	}
	return list
}

// spentRefusals are those that what is left to spend isn't enough for.
func spentRefusals(e *modelEngine) []refusal {
	var list []refusal
	rest := impl.MaxSpent - e.spent
	if rest < len(e.text) {
		list = append(list, each(impl.ErrFull, opSlice(0, rest+1), opSlice(len(e.text)-rest-1, len(e.text)), opDump(), opInsert(0, ofBytes(rest+1)))...)
	}
	cost := func(stack [][]modelEdit, insertion bool) int {
		n := 0
		for _, r := range stack[len(stack)-1] {
			if r.insertion == insertion {
				n += len(r.runes)
			}
		}
		return n
	}
	if !e.open && len(e.undo) > 0 && cost(e.undo, false) > rest {
		list = append(list, each(impl.ErrFull, opUndo())...)
	}
	if !e.open && len(e.redo) > 0 && cost(e.redo, true) > rest {
		list = append(list, each(impl.ErrFull, opRedo())...)
	}
	return list
}

// standing is the model behind a script.
func standing(t *testing.T, script []impl.Op, hcap int) *modelEngine {
	e := newModel(t, hcap)
	e.plain = true
	for _, op := range script {
		e.step(op)
	}
	return e
}

// wantIdle puts operations, which must answer codes and nothing else, into the middle of a script: each of them by itself
// and all in a row. What is answered before and behind, with a Dump on either side, and what the cores are at the end is
// the same as without.
func wantIdle(t *testing.T, what string, before []impl.Op, idle []refusal, after []impl.Op, hcap int) {
	t.Helper()
	head := append(slices.Clone(before), opDump())
	tail := append([]impl.Op{opDump()}, after...)
	without := runBoth(slices.Concat(head, tail), hcap)
	for k := range idle {
		wantIdleRow(t, what, head, idle[k:k+1], tail, hcap, without)
	}
	wantIdleRow(t, what+", all in a row", head, idle, tail, hcap, without)
}

func wantIdleRow(t *testing.T, what string, head []impl.Op, row []refusal, tail []impl.Op, hcap int, without runs) {
	t.Helper()
	script := slices.Clone(head)
	for _, r := range row {
		script = append(script, r.op)
	}
	script = append(script, tail...)
	got := runBoth(script, hcap)
	what += ", with " + spellOp(row[0].op)
	for name, pair := range map[string][2][]impl.Obs{"pieces": {got.piece.Obs, without.piece.Obs}, "lines": {got.line.Obs, without.line.Obs}} {
		if len(pair[0]) != len(script) {
			t.Errorf("%s, %s: %d observations", what, name, len(pair[0]))
			return
		}
		end := len(head) + len(row)
		want := pair[1][len(head)-1]
		for k, r := range row {
			want.Code, want.Text, want.Marks = r.code, nil, nil
			wantObs(t, what+", "+name+", "+spellOp(r.op), pair[0][len(head)+k], want)
		}
		wantAllObs(t, what+", "+name+", before", head, pair[0][:len(head)], pair[1][:len(head)])
		wantAllObs(t, what+", "+name+", behind", tail, pair[0][end:], pair[1][len(head):])
	}
	wantPieces(t, what, got.piece.Final, got.piece.Code, without.piece.Final)
	wantLines(t, what, got.line.Final, got.line.Code, without.line.Final)
}

// Promise 12: behind scripts of many forms, everything that must be refused is, and leaves all as it was.
func TestRefusedChangesNothing(t *testing.T) {
	for habit := range habits {
		for seed := range 4 {
			script := scriptOf(t, habit, 500+seed, 48, 4)
			for at := 3 * seed; at <= len(script); at += 17 {
				list := refusals(standing(t, script[:at], 4))
				wantIdle(t, fmt.Sprintf("%s, seed %d, at %d", habit, seed, at), script[:at], list, script[at:], 4)
				if t.Failed() {
					return
				}
			}
		}
	}
}

// fullTable is a script behind which there is a group to do again, and no room for another mark.
func fullTable() []impl.Op {
	script := []impl.Op{opInsert(0, "ab\nc"), opInsert(2, "x"), opUndo()}
	for k := range impl.MaxMarks {
		script = append(script, opMark(k, k%5, k%2))
	}
	return script
}

// Promise 12: refusals by what is full: the text, the table of marks, what is spent; with a group open and without.
func TestRefusedWhereFull(t *testing.T) {
	edits := []impl.Op{opMark(1, 500, 1), opMark(2, 20, 0), opSnap(2), opBegin(), opInsert(4, "put"), opDelete(0, 9), opInsert(0, "in"), opEnd(),
		opInsert(9, "\n\n\n\n\n"), opUndo()}
	marks := fullTable()
	for name, before := range map[string][]impl.Op{
		"the text":                    {opInsert(0, ofBytes(impl.MaxText)), opDelete(1, 3), opUndo(), opMark(1, impl.MaxText, 1)},
		"the table":                   marks,
		"the table, a group open":     append(slices.Clone(marks), opBegin(), opDelete(1, 2)),
		"all spent":                   append(spending(impl.MaxSpent-10), edits...),
		"nearly all spent":            append(spending(impl.MaxSpent-14), edits...),
		"all spent, a group open":     slices.Concat(spending(impl.MaxSpent-10), edits, []impl.Op{opBegin(), opDelete(2, 5)}),
		"all spent, a snapshot there": slices.Concat(spending(impl.MaxSpent-10), edits, []impl.Op{opBack(2)}),
	} {
		list := refusals(standing(t, before, 9))
		for _, full := range []int{impl.ErrFull, impl.ErrRange, impl.ErrPlace, impl.ErrUnknown, impl.ErrValue, impl.ErrKind} {
			if !slices.ContainsFunc(list, func(r refusal) bool { return r.code == full }) {
				t.Errorf("%s: the test's own list has no refusal with code %d", name, full)
			}
		}
		after := []impl.Op{opLook(1), opLook(2), opDelete(0, 3), opUndo(), opRedo(), opLineCol(3), opDrop(1), opEnd(),
			opUndo(), opUndo(), opBack(2), opUndo(), opRedo()}
		wantIdle(t, name, before, list, after, 9)
	}
}

// Promise 12 and chapter 7: of several faults at once the first one named is told.
func TestRefusedInOrder(t *testing.T) {
	wantSteps(t, "faults in order", 5, []stepSeen{
		{opInsert(0, "abc"), "0 3 0, 3 1 1 0 0"},
		{opMark(1, 1, 0), "0 0 0, 3 1 1 0 0"},
		{opInsert(4, ofBytes(9000)), "2 0 0, 3 1 1 0 0"},
		{opInsert(3, ofBytes(9000)), "10 0 0, 3 1 1 0 0"},
		{opMark(1, 9, 5), "12 0 0, 3 1 1 0 0"},
		{opMark(1, 9, 1), "5 0 0, 3 1 1 0 0"},
		{opMark(2, 9, 1), "2 0 0, 3 1 1 0 0"},
		{opBegin(), "0 0 0, 3 1 1 0 1"},
		{opRedo(), "9 0 0, 3 1 1 0 1"},
		{opSnap(99), "9 0 0, 3 1 1 0 1"},
		{opBack(99), "9 0 0, 3 1 1 0 1"},
		{opBack(3), "9 0 0, 3 1 1 0 1"},
		{opEnd(), "0 0 0, 3 1 1 0 0"},
		{opSnap(99), "11 0 0, 3 1 1 0 0"},
		{opBack(3), "11 0 0, 3 1 1 0 0"},
		{opRedo(), "6 0 0, 3 1 1 0 0"},
	})
}

// Promise 12: insertions of no runes, deletions of nothing and empty groups change nothing, and leave the redo stack.
func TestIdleEditsLeaveTheRedoStack(t *testing.T) {
	for habit := range habits {
		for seed := range 10 {
			before := append(scriptOf(t, habit, 700+seed, 40, 9), opEnd(), opInsert(0, "x\ny"), opInsert(1, "z"), opUndo(), opUndo())
			e := standing(t, before, 9)
			if len(e.redo) != 2 {
				t.Fatalf("the test's own script leaves %d groups to do again", len(e.redo))
			}
			var idle []refusal
			for off := 0; off <= len(e.text); off += 3 {
				idle = append(idle, each(impl.OK, opInsert(off, ""), opDelete(off, off))...)
			}
			wantIdle(t, fmt.Sprintf("%s, seed %d", habit, seed), before, idle, []impl.Op{opRedo(), opRedo(), opDump(), opRedo(), opUndo(), opDump()}, 9)
		}
	}
}
