package tests

import (
	"fmt"
	"slices"
	"testing"

	"loop.example/s01685/impl"
)

// wantCapped makes so many groups, of edits of their own and of groups of several edits mixed, with empty groups between,
// under a cap, and asks that just the newest of them can be undone: down to the text that stands there then.
func wantCapped(t *testing.T, groups, hcap, limit int) {
	t.Helper()
	what := fmt.Sprintf("%d groups under a cap of %d", groups, hcap)
	d := dice(groups + 1)
	var script []impl.Op
	lengths := []int{0}
	for k := range groups {
		if k%5 == 2 {
			script = append(script, opBegin(), opEnd(), opBegin(), opDelete(0, 0), opEnd())
		}
		length := lengths[k]
		switch d.roll(3) {
		case 0:
			script = append(script, opInsert(d.roll(length+1), "ab"))
			length += 2
		case 1:
			script = append(script, opBegin(), opInsert(0, "a"), opInsert(length, "bc"), opDelete(1, 2), opEnd())
			length += 2
		case 2:
			script = append(script, opInsert(length, "\n"))
			length++
		}
		lengths = append(lengths, length)
	}
	held := min(groups, limit)
	start := len(script)
	for range held + 2 {
		script = append(script, opUndo())
	}
	for range held + 1 {
		script = append(script, opRedo())
	}
	got := runBoth(script, hcap)
	for name, obs := range map[string][]impl.Obs{"pieces": got.piece.Obs, "lines": got.line.Obs} {
		for k, o := range obs[:start] {
			if o.Undo > limit {
				t.Errorf("%s, %s: %d groups behind operation %d", what, name, o.Undo, k)
			}
		}
		for k, o := range obs[start:] {
			wantWalk(t, fmt.Sprintf("%s, %s, operation %d", what, name, k), o, k, held, lengths)
		}
	}
}

// wantWalk looks at operation k of a walk back over all groups that are held, with two Undos too many, and forward again,
// with a Redo too many.
func wantWalk(t *testing.T, what string, o impl.Obs, k, held int, lengths []int) {
	t.Helper()
	back, code := min(k+1, held), impl.OK
	if k >= held+2 {
		back = max(0, 2*held+1-k)
	}
	if k == held || k == held+1 || k == 2*held+2 {
		code = impl.ErrEmpty
	}
	if want := lengths[len(lengths)-1-back]; o.Code != code || o.Len != want || o.Undo != held-back || o.Redo != back {
		t.Errorf("%s: code %d, length %d, undo %d, redo %d, want %d, %d, %d, %d", what, o.Code, o.Len, o.Undo, o.Redo, code, want, held-back, back)
	}
}

// Promise 14: fewer groups than the cap, just as many, and more.
func TestCap(t *testing.T) {
	for _, hcap := range []int{1, 2, 3, 7, 20} {
		for _, groups := range []int{0, 1, 2, hcap - 1, hcap, hcap + 1, hcap + 2, 2*hcap + 1} {
			wantCapped(t, groups, hcap, hcap)
		}
	}
}

// Promise 14 and 11: caps below 1 are 1, those above MaxCap are MaxCap.
func TestCapOutside(t *testing.T) {
	for _, hcap := range append([]int{0, impl.MaxCap, impl.MaxCap + 1}, extremes...) {
		limit := 1
		if hcap > 0 {
			limit = 1000
		}
		for _, groups := range []int{1, 2, 999, 1000, 1001, 1010} {
			wantCapped(t, groups, hcap, limit)
		}
	}
	wantCapped(t, 1000, 999, 999)
	wantCapped(t, 1000, 1, 1)
}

// Promise 14, by hand: an open group isn't counted, and comes onto the stack at its End.
func TestCapByHand(t *testing.T) {
	wantSteps(t, "a cap of 2", 2, []stepSeen{
		{opInsert(0, "a"), "0 1 0, 1 1 1 0 0"},
		{opInsert(1, "b"), "0 1 0, 2 1 2 0 0"},
		{opBegin(), "0 0 0, 2 1 2 0 1"},
		{opInsert(2, "c"), "0 1 0, 3 1 2 0 1"},
		{opInsert(3, "d"), "0 1 0, 4 1 2 0 1"},
		{opInsert(4, "e"), "0 1 0, 5 1 2 0 1"},
		{opEnd(), "0 3 0, 5 1 2 0 0"},
		{opBegin(), "0 0 0, 5 1 2 0 1"},
		{opEnd(), "0 0 0, 5 1 2 0 0"},
		{opUndo(), "0 3 0, 2 1 1 1 0"},
		{opUndo(), "0 1 0, 1 1 0 2 0"},
		{opUndo(), "6 0 0, 1 1 0 2 0"},
		{opRedo(), "0 1 0, 2 1 1 1 0"},
		{opRedo(), "0 3 0, 5 1 2 0 0"},
		{opInsert(5, "f"), "0 1 0, 6 1 2 0 0"},
		{opUndo(), "0 1 0, 5 1 1 1 0"},
		{opUndo(), "0 3 0, 2 1 0 2 0"},
		{opUndo(), "6 0 0, 2 1 0 2 0"},
		{opRedo(), "0 3 0, 5 1 1 1 0"},
		{opDump(), "0 0 0, 5 1 1 1 0 :abcde"},
	})
	wantSteps(t, "a cap of 1", 1, []stepSeen{
		{opInsert(0, "a"), "0 1 0, 1 1 1 0 0"},
		{opSnap(0), "0 0 0, 1 1 1 0 0"},
		{opInsert(1, "b"), "0 1 0, 2 1 1 0 0"},
		{opUndo(), "0 1 0, 1 1 0 1 0"},
		{opUndo(), "6 0 0, 1 1 0 1 0"},
		{opRedo(), "0 1 0, 2 1 1 0 0"},
		{opBack(0), "0 0 0, 1 1 1 0 0"},
		{opUndo(), "0 1 0, 0 1 0 1 0"},
		{opUndo(), "6 0 0, 0 1 0 1 0"},
		{opDelete(0, 0), "0 0 0, 0 1 0 1 0"},
		{opInsert(0, "z"), "0 1 0, 1 1 1 0 0"},
		{opRedo(), "6 0 0, 1 1 1 0 0"},
	})
}

// Promise 14: groups that were undone and have come back count like all others, and new ones drop the oldest again; what a
// snapshot holds isn't dropped with it.
func TestCapWithRedo(t *testing.T) {
	for _, hcap := range []int{1, 2, 3, 5} {
		var script []impl.Op
		for k := range hcap + 2 {
			script = append(script, opInsert(k, "a"))
		}
		script = append(script, opSnap(0))
		for range hcap {
			script = append(script, opUndo())
		}
		for range hcap {
			script = append(script, opRedo())
		}
		script = append(script, opInsert(0, "b"))
		for range hcap {
			script = append(script, opUndo())
		}
		at := len(script)
		script = append(script, opUndo(), opDump(), opBack(0))
		for range hcap {
			script = append(script, opUndo())
		}
		script = append(script, opUndo(), opDump())
		wantRuns(t, fmt.Sprintf("a cap of %d", hcap), script, hcap)
		obs := impl.RunPiece(script, hcap).Obs
		last := len(obs) - 1
		if obs[at].Code != impl.ErrEmpty || obs[at+1].Len != 3 || obs[at+1].Redo != hcap {
			t.Errorf("a cap of %d, behind a new edit: %s, then %s", hcap, spellObs(obs[at]), spellObs(obs[at+1]))
		}
		if obs[last-1].Code != impl.ErrEmpty || obs[last].Len != 2 || obs[last].Redo != hcap {
			t.Errorf("a cap of %d, behind Back: %s, then %s", hcap, spellObs(obs[last-1]), spellObs(obs[last]))
		}
	}
}

// Promise 14: scripts of all sorts under small caps never tell more groups than the cap, on both stacks together.
func TestCapInScripts(t *testing.T) {
	for _, habit := range []string{"edits", "groups", "slots", "all"} {
		for seed := range 40 {
			hcap := 1 + seed%4
			script := slices.Concat(scriptOf(t, habit, 3000+seed, 120, hcap))
			for k, o := range impl.RunLine(script, hcap).Obs {
				if o.Undo+o.Redo > hcap {
					t.Errorf("%s, seed %d, operation %d: undo %d, redo %d under a cap of %d", habit, seed, k, o.Undo, o.Redo, hcap)
				}
			}
			wantRuns(t, fmt.Sprintf("%s, seed %d", habit, seed), script, hcap)
		}
	}
}
