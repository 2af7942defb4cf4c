package tests

import (
	"fmt"
	"slices"
	"testing"

	"loop.example/s01685/impl"
)

// wantIdleFront puts operations, which must answer codes and nothing else, into the middle of a script, all in a row: what
// is answered and what is live before and behind, with a Dump on either side, is the same as without.
func wantIdleFront(t *testing.T, what string, before []impl.Op, row []refusal, after []impl.Op, pol impl.Policy) {
	t.Helper()
	head := append(slices.Clone(before), opDump())
	tail := append([]impl.Op{opDump()}, after...)
	script := slices.Clone(head)
	for _, r := range row {
		script = append(script, r.op)
	}
	script = append(script, tail...)
	end := len(head) + len(row)
	without := impl.RunAdaptive(slices.Concat(head, tail), 4, pol)
	got := impl.RunAdaptive(script, 4, pol)
	if len(got.Obs) != len(script) || len(got.Live) != len(script) {
		t.Errorf("%s: %d observations, %d live", what, len(got.Obs), len(got.Live))
		return
	}
	want := without.Obs[len(head)-1]
	for k, r := range row {
		want.Code, want.Text, want.Marks = r.code, nil, nil
		wantObs(t, what+", "+spellOp(r.op), got.Obs[len(head)+k], want)
		if got.Live[len(head)+k] != without.Live[len(head)-1] {
			t.Errorf("%s, %s: live %d", what, spellOp(r.op), got.Live[len(head)+k])
		}
	}
	wantAllObs(t, what+", before", head, got.Obs[:len(head)], without.Obs[:len(head)])
	wantAllObs(t, what+", behind", tail, got.Obs[end:], without.Obs[len(head):])
	wantSame(t, what+", live before", got.Live[:len(head)], without.Live[:len(head)])
	wantSame(t, what+", live behind", got.Live[end:], without.Live[len(head):])
	if got.Moves != without.Moves {
		t.Errorf("%s: moves %d, without %d", what, got.Moves, without.Moves)
	}
}

// fronts are policies under which what follows refused operations is seen in what is live.
var fronts = []impl.Policy{stay, {Big: 99999, Near: 99999, Run: 2}, {Big: 20, Near: 10, Run: 1}, {Big: 10, Near: 3, Run: 0}, {}}

// Promise 12 of the front end: behind scripts of many forms, in either engine, everything that must be refused is, and
// leaves all as it was, what the choice goes by too.
func TestRefusedChangesNothingInFront(t *testing.T) {
	for habit := range habits {
		for seed := range 6 {
			script := scriptOf(t, habit, 600+seed, 48, 4)
			for at := 2 * seed; at <= len(script); at += 9 {
				list := refusals(standing(t, script[:at], 4))
				for k, pol := range fronts {
					what := fmt.Sprintf("%s, seed %d, at %d, policy %v", habit, seed, at, pol)
					wantIdleFront(t, what, script[:at], list, script[at:], pol)
					moved := append(slices.Clone(script[:at]), opMove(k%2), opMove(2))
					wantIdleFront(t, what+", moved", moved, list, script[at:], pol)
				}
			}
			if t.Failed() {
				return
			}
		}
	}
}

// Promise 12 of the front end: each refused operation by itself, in either engine.
func TestRefusedByItselfInFront(t *testing.T) {
	for _, opened := range []bool{false, true} {
		before := []impl.Op{opInsert(0, "ab\ncd"), opMark(1, 2, 1), opMark(2, 4, 0), opSnap(2), opInsert(5, "e"), opInsert(6, "f"), opUndo()}
		if opened {
			before = append(before, opBegin(), opInsert(1, "g"), opInsert(2, "h"))
		}
		after := []impl.Op{opInsert(3, "i"), opInsert(4, "j"), opEnd(), opUndo(), opUndo(), opRedo(), opBack(2), opDump(), opUndo(), opDump()}
		for _, live := range []int{0, 1} {
			moved := append(slices.Clone(before), opMove(live))
			for _, r := range refusals(standing(t, before, 4)) {
				for _, pol := range fronts {
					wantIdleFront(t, fmt.Sprintf("open %t, live %d, policy %v", opened, live, pol), moved, []refusal{r}, after, pol)
				}
			}
		}
	}
}

// Promise 12 of the front end: refusals by what is full, in either engine.
func TestRefusedWhereFullInFront(t *testing.T) {
	for name, before := range map[string][]impl.Op{
		"the text":      {opInsert(0, ofBytes(impl.MaxText)), opDelete(1, 3), opUndo(), opMark(1, impl.MaxText, 1)},
		"the table":     fullTable(),
		"what is spent": append(spending(impl.MaxSpent-9), opMark(1, 500, 1), opInsert(4, "put"), opDelete(0, 9), opInsert(0, "in"), opUndo()),
	} {
		for _, live := range []int{0, 1} {
			moved := append(slices.Clone(before), opMove(live))
			after := []impl.Op{opLook(1), opDelete(0, 3), opUndo(), opRedo(), opLineCol(3), opDrop(1), opUndo(), opUndo()}
			for _, pol := range fronts {
				wantIdleFront(t, fmt.Sprintf("%s, live %d, policy %v", name, live, pol), moved, refusals(standing(t, before, 4)), after, pol)
			}
		}
	}
}
