package tests

import (
	"slices"
	"testing"

	"loop.example/s01685/impl"
)

// liveSeen is an operation and the engine that is live behind it.
type liveSeen struct {
	op   impl.Op
	live int
}

// wantLive holds Live and Moves against what was worked out by hand, and all else against the model.
func wantLive(t *testing.T, what string, pol impl.Policy, moves int, steps []liveSeen) {
	t.Helper()
	var script []impl.Op
	var live []int
	for _, s := range steps {
		script = append(script, s.op)
		live = append(live, s.live)
	}
	got := wantAdapted(t, what, script, 9, pol)
	if !slices.Equal(got.Live, live) || got.Moves != moves {
		t.Errorf("%s: live %v, moves %d, want %v, %d", what, got.Live, got.Moves, live, moves)
	}
}

// Promise 15, by hand: distances that meet Near exactly and pass it by one, to both sides, and where last is.
func TestLiveNear(t *testing.T) {
	eight := opInsert(0, "aaaaaaaa")
	for _, c := range []struct {
		name   string
		near   int
		script []impl.Op
		live   int // behind the last one; before it 0
	}{
		{"ahead", 2, []impl.Op{eight, opInsert(0, "b"), opInsert(3, "c")}, 1},
		{"ahead, one more", 2, []impl.Op{eight, opInsert(0, "b"), opInsert(4, "c")}, 0},
		{"behind", 2, []impl.Op{eight, opInsert(6, "c")}, 1},
		{"behind, one more", 2, []impl.Op{eight, opInsert(5, "c")}, 0},
		{"a deletion", 2, []impl.Op{eight, opDelete(6, 8)}, 1},
		{"a deletion, one more", 2, []impl.Op{eight, opDelete(5, 8)}, 0},
		{"a deletion that ends near", 2, []impl.Op{eight, opDelete(3, 8)}, 0},
		{"behind a deletion", 2, []impl.Op{eight, opDelete(1, 5), opInsert(3, "b")}, 1},
		{"behind a deletion, one more", 2, []impl.Op{eight, opDelete(1, 5), opInsert(4, "b")}, 0},
		{"a deletion behind a deletion", 2, []impl.Op{eight, opDelete(2, 4), opDelete(4, 5)}, 1},
		{"a deletion behind a deletion, one more", 2, []impl.Op{eight, opDelete(1, 4), opDelete(4, 5)}, 0},
		{"at the place", 0, []impl.Op{eight, opInsert(8, "b")}, 1},
		{"beside the place", 0, []impl.Op{eight, opInsert(7, "b")}, 0},
		{"at the start of what was put in", 0, []impl.Op{eight, opInsert(0, "b")}, 0},
		{"runes, not bytes", 0, []impl.Op{opInsert(0, "\u00e9\u20ac\xff"), opInsert(3, "b")}, 1},
		{"never near", -1, []impl.Op{eight, opInsert(8, "b")}, 0},
		{"never near at all", extremes[0], []impl.Op{eight, opInsert(8, "b")}, 0},
		{"always near", 8, []impl.Op{eight, opInsert(0, "b")}, 1},
		{"the first one", 9999, []impl.Op{opInsert(0, "b")}, 0},
		{"the second one", 1<<63 - 1, []impl.Op{eight, opInsert(0, "b")}, 1},
	} {
		var steps []liveSeen
		for _, op := range c.script {
			steps = append(steps, liveSeen{op, 0})
		}
		steps[len(steps)-1].live = c.live
		wantLive(t, c.name, impl.Policy{Big: 99, Near: c.near, Run: 1}, c.live, steps)
	}
}

// Promise 15, by hand: near that meets Run exactly, and starts again behind an edit that is far.
func TestLiveRun(t *testing.T) {
	typing := func(at, live int) liveSeen { return liveSeen{opInsert(at, "a"), live} }
	wantLive(t, "typing", impl.Policy{Big: 99, Near: 0, Run: 3}, 1,
		[]liveSeen{typing(0, 0), typing(1, 0), typing(2, 0), typing(3, 1), typing(4, 1), typing(0, 1), typing(1, 1)})
	wantLive(t, "a far one", impl.Policy{Big: 99, Near: 0, Run: 3}, 1,
		[]liveSeen{typing(0, 0), typing(1, 0), typing(2, 0), typing(0, 0), typing(1, 0), typing(2, 0), typing(3, 1)})
	wantLive(t, "deleting backwards", impl.Policy{Big: 99, Near: 1, Run: 3}, 1,
		[]liveSeen{{opInsert(0, "abcdef"), 0}, {opDelete(5, 6), 0}, {opDelete(4, 5), 0}, {opDelete(3, 4), 1}, {opDelete(2, 3), 1}})
	wantLive(t, "deleting forwards", impl.Policy{Big: 99, Near: 0, Run: 2}, 1,
		[]liveSeen{{opInsert(0, "abcdef"), 0}, {opDelete(2, 3), 0}, {opDelete(2, 4), 0}, {opDelete(2, 3), 1}})
	for _, run := range append([]int{0, -1}, extremes...) {
		live := 0
		if run <= 0 {
			live = 1
		}
		wantLive(t, "no run needed, or one that is never met", impl.Policy{Big: 99, Near: -1, Run: run}, live,
			[]liveSeen{{opBegin(), 0}, {opDump(), 0}, typing(0, live), typing(0, live), {opDelete(1, 2), live}})
	}
}

// Promise 15, by hand: lengths that meet Big exactly and are one short.
func TestLiveBig(t *testing.T) {
	wantLive(t, "around Big", impl.Policy{Big: 5, Near: 0, Run: 0}, 5, []liveSeen{
		{opInsert(0, "aaaa"), 1}, {opInsert(4, "a"), 0}, {opDelete(0, 1), 1}, {opInsert(2, "bb"), 0}, {opDelete(0, 1), 0}, {opDelete(0, 1), 1}})
	wantLive(t, "Big comes ahead of Run", impl.Policy{Big: 3, Near: 0, Run: 2}, 0,
		[]liveSeen{{opInsert(0, "a"), 0}, {opInsert(1, "a"), 0}, {opInsert(2, "a"), 0}, {opInsert(3, "a"), 0}})
	wantLive(t, "runes, not bytes", impl.Policy{Big: 3, Near: 0, Run: 0}, 2,
		[]liveSeen{{opInsert(0, "\u20ac\xff"), 1}, {opInsert(2, "\u00e9"), 0}})
	for _, big := range append([]int{0, -1}, extremes...) {
		live, moves := 0, 0
		if big > 0 {
			live, moves = 1, 1
		}
		wantLive(t, "always big, or never", impl.Policy{Big: big, Near: 0, Run: 0}, moves,
			[]liveSeen{{opInsert(0, "aa"), live}, {opDelete(0, 2), live}, {opUndo(), live}, {opRedo(), live}})
	}
	wantLive(t, "MaxText", impl.Policy{Big: impl.MaxText, Near: 0, Run: 0}, 3,
		[]liveSeen{{opInsert(0, ofBytes(impl.MaxText-1)), 1}, {opInsert(0, "\n"), 0}, {opInsert(0, "\n"), 0}, {opDelete(0, 1), 1}})
}

// idlers change neither number and make no choice: edits of nothing, operations that are refused, and those that aren't
// edits. They need a text of at least one rune and at most ten, no group open, and nothing to do again.
func idlers() []impl.Op {
	return []impl.Op{opInsert(0, ""), opInsert(1, ""), opDelete(0, 0), opDelete(1, 1), opInsert(11, "x"), opInsert(-1, "x"), opInsert(0, ofBytes(9000)),
		opDelete(0, 11), opDelete(1, 0), opRedo(), opBack(5), opBack(-1), opBack(8), opEnd(), opBegin(), opUndo(), opRedo(), opBack(0), opBegin(), opEnd(),
		opSnap(1), opSnap(9), opMark(1, 0, 1), opMark(1, 0, 1), opLook(1), opLook(2), opDrop(1), opDrop(1), opSlice(0, 1), opSlice(0, 11), opLineCol(0),
		opLineCol(11), opOffset(0, 0), opOffset(11, 0), opDump(), {Kind: 0}, {Kind: 17, A: 1, Text: []byte("x")}, {Kind: extremes[0]}}
}

// Promise 15, by hand: what changes neither number, and makes no choice.
func TestLiveIdle(t *testing.T) {
	steps := []liveSeen{{opInsert(0, "abc"), 0}, {opMove(1), 1}}
	for _, op := range idlers() {
		steps = append(steps, liveSeen{op, 1})
	}
	wantLive(t, "no choice", impl.Policy{Big: 3, Near: 0, Run: 0}, 2, append(steps, liveSeen{opInsert(0, "x"), 0}))
	for _, op := range idlers() {
		if op.Kind == impl.OpUndo {
			continue // with no group open it isn't refused here
		}
		for _, text := range []string{"b", "bc"} {
			wantLive(t, "typing with "+spellOp(op)+" between", impl.Policy{Big: 99, Near: 0, Run: 2}, 1, []liveSeen{
				{opInsert(0, "a"), 0}, {op, 0}, {opInsert(1, text), 0}, {op, 0}, {opInsert(1+len(text), "d"), 1}, {op, 1}})
		}
	}
	steps = []liveSeen{{opInsert(0, "a"), 0}}
	for k, live := range []int{0, 0, 1} {
		for _, op := range idlers() {
			steps = append(steps, liveSeen{op, 0})
		}
		steps = append(steps, liveSeen{opInsert(k+1, "a"), live})
	}
	wantLive(t, "both numbers stay", impl.Policy{Big: 99, Near: 0, Run: 3}, 1, steps)
}

// Promise 15, by hand: an Undo, a Redo and a Back that answer 0 forget both numbers and make the choice; refused ones don't.
func TestLiveUndoRedoBack(t *testing.T) {
	a := func(at, live int) liveSeen { return liveSeen{opInsert(at, "a"), live} }
	two := impl.Policy{Big: 99, Near: 0, Run: 2}
	wantLive(t, "Undo", two, 1, []liveSeen{a(0, 0), a(1, 0), {opUndo(), 0}, a(1, 0), a(2, 0), a(3, 1)})
	wantLive(t, "Redo", two, 1, []liveSeen{a(0, 0), a(1, 0), {opUndo(), 0}, {opRedo(), 0}, a(2, 0), a(3, 0), a(4, 1)})
	wantLive(t, "Back", two, 1, []liveSeen{a(0, 0), {opSnap(0), 0}, a(1, 0), {opBack(0), 0}, a(1, 0), a(2, 0), a(3, 1)})
	wantLive(t, "refused", two, 1, []liveSeen{a(0, 0), a(1, 0), {opRedo(), 0}, {opBack(3), 0}, {opBegin(), 0}, {opUndo(), 0}, {opRedo(), 0},
		{opBack(0), 0}, {opEnd(), 0}, a(2, 1)})
	wantLive(t, "refused on an empty stack", two, 1, []liveSeen{a(0, 0), {opUndo(), 0}, {opUndo(), 0}, a(0, 0), {opRedo(), 0}, a(1, 0), {opRedo(), 0}, a(2, 1)})
	wantLive(t, "near 0 that meets Run", impl.Policy{Big: 3, Near: 0, Run: 0}, 2,
		[]liveSeen{{opInsert(0, "aaa"), 0}, {opUndo(), 1}, {opUndo(), 1}, {opRedo(), 0}})
	wantLive(t, "near 0 that doesn't", impl.Policy{Big: 3, Near: 0, Run: 1}, 0,
		[]liveSeen{{opInsert(0, "aaa"), 0}, {opUndo(), 0}, {opUndo(), 0}, {opRedo(), 0}})
	wantLive(t, "the choice made behind each", impl.Policy{Big: 3, Near: 0, Run: 99}, 8, []liveSeen{
		{opInsert(0, "aaa"), 0}, {opSnap(0), 0}, {opMove(1), 1}, {opInsert(0, "b"), 0}, {opMove(1), 1}, {opUndo(), 0}, {opMove(1), 1}, {opRedo(), 0},
		{opMove(1), 1}, {opBack(0), 0}})
	wantLive(t, "no choice made behind refused ones", impl.Policy{Big: 1, Near: 0, Run: 99}, 1,
		[]liveSeen{{opInsert(0, "aaa"), 0}, {opMove(1), 1}, {opRedo(), 1}, {opBack(0), 1}, {opBegin(), 1}, {opUndo(), 1}, {opEnd(), 1}})
	wantLive(t, "all spent", impl.Policy{Big: 1, Near: 0, Run: 0}, 1, allSpent())
}

// allSpent ends with an Undo and a Redo that are refused because all is spent.
func allSpent() []liveSeen {
	var steps []liveSeen
	for _, op := range spending(impl.MaxSpent - 2) {
		steps = append(steps, liveSeen{op, 0})
	}
	return append(steps, liveSeen{opInsert(0, "xy"), 0}, liveSeen{opUndo(), 0}, liveSeen{opMove(1), 1}, liveSeen{opRedo(), 1})
}

// Promise 15, by hand: Moves, by choice and by themselves: what they do to both numbers, and that they ask no policy.
func TestLiveMoves(t *testing.T) {
	a := func(at, live int) liveSeen { return liveSeen{opInsert(at, "a"), live} }
	m := func(target, live int) liveSeen { return liveSeen{opMove(target), live} }
	two := impl.Policy{Big: 99, Near: 0, Run: 2}
	wantLive(t, "just before near meets Run", two, 3, []liveSeen{a(0, 0), a(1, 0), m(1, 1), a(2, 1), m(0, 0), a(3, 0), a(4, 1)})
	wantLive(t, "to where it is, just before near meets Run", two, 1, []liveSeen{a(0, 0), a(1, 0), m(0, 0), a(2, 1)})
	wantLive(t, "last stays", impl.Policy{Big: 99, Near: 0, Run: 1}, 3, []liveSeen{a(0, 0), m(1, 1), m(0, 0), a(1, 1)})
	wantLive(t, "near is 0 and last stays behind a choice", impl.Policy{Big: 4, Near: 1, Run: 2}, 3,
		[]liveSeen{a(0, 0), a(1, 0), a(2, 1), a(3, 0), {opDelete(3, 4), 0}, {opDelete(2, 3), 1}})
	for _, pol := range []impl.Policy{{}, {Big: 99}, stay, {Big: extremes[0]}, {Big: 99, Run: extremes[0]}} {
		wantLive(t, "all targets", pol, 6, []liveSeen{m(0, 0), m(1, 1), m(1, 1), m(0, 0), m(0, 0), m(2, 1), m(2, 0), m(-1, 1), m(1, 1), m(-1, 0)})
	}
	for _, x := range extremes {
		wantLive(t, "far targets", stay, 4, []liveSeen{m(x, 1), m(x, 0), m(-x, 1), m(1, 1), m(x, 0), m(0, 0)})
	}
	wantLive(t, "in a group", two, 2, []liveSeen{{opBegin(), 0}, a(0, 0), a(1, 0), m(1, 1), {opBegin(), 1}, m(0, 0), {opEnd(), 0}, {opEnd(), 0}})
	wantLive(t, "nothing", two, 0, nil)
	wantLive(t, "fields that a Move doesn't name", stay, 1, []liveSeen{{impl.Op{Kind: impl.OpMove, A: 1, B: 7, C: -7, Text: []byte("x")}, 1}})
}
