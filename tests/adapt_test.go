package tests

import (
	"fmt"
	"slices"
	"testing"

	"loop.example/s01685/impl"
)

// targets are those of Moves: the two engines, and others.
var targets = append([]int{0, 1, 2, -1, 77}, extremes...)

// woven puts Moves into a script, ahead of the operations at which the test says so; at the script's length is behind
// all. It tells where the script's own operations stand then.
func woven(script []impl.Op, target func(at int) (int, bool)) (with []impl.Op, own []int) {
	for at := range len(script) + 1 {
		if to, ok := target(at); ok {
			with = append(with, opMove(to))
		}
		if at < len(script) {
			own = append(own, len(with))
			with = append(with, script[at])
		}
	}
	return with, own
}

// wantUnmoved asks that a script with Moves in it gives for its own operations what the pieces give without, and for the
// Moves nothing but what stood before.
func wantUnmoved(t *testing.T, what string, script []impl.Op, pol impl.Policy, target func(at int) (int, bool)) {
	t.Helper()
	with, own := woven(script, target)
	want := impl.RunPiece(script, 9).Obs
	got := impl.RunAdaptive(with, 9, pol).Obs
	if len(got) != len(with) {
		t.Errorf("%s: %d observations of %d operations", what, len(got), len(with))
		return
	}
	standing := impl.Obs{Lines: 1}
	next := 0
	for k, op := range with {
		if next < len(own) && own[next] == k {
			standing = want[next]
			next++
			wantObs(t, fmt.Sprintf("%s, operation %d, %s", what, next-1, spellOp(op)), got[k], standing)
			continue
		}
		standing.Code, standing.X, standing.Y, standing.Text, standing.Marks = impl.OK, 0, 0, nil, nil
		wantObs(t, fmt.Sprintf("%s, the Move ahead of operation %d", what, next), got[k], standing)
	}
}

// rich is a script with groups, marks, snapshots, and all that goes along with a move.
func rich() []impl.Op {
	return []impl.Op{opInsert(0, "ab\ncd\xff"), opMark(1, 2, 1), opMark(2, 4, 0), opSnap(0), opBegin(), opInsert(2, "X\n"), opDelete(0, 1), opMark(3, 3, 1),
		opInsert(6, "\n\u20ac"), opEnd(), opDump(), opUndo(), opDump(), opSnap(7), opRedo(), opBack(7), opRedo(), opDrop(1), opUndo(), opDump(), opBack(0),
		opUndo(), opUndo(), opRedo(), opLineCol(5), opOffset(1, 2), opSlice(1, 5), opBegin(), opDelete(0, 6), opUndo(), opEnd(), opUndo(), opDump(), opLook(2)}
}

// Promise 15: a Move anywhere, by itself, to every target, in either engine; and Moves everywhere.
func TestMovesChangeNothingElse(t *testing.T) {
	script := rich()
	for at := range len(script) + 1 {
		for _, to := range targets {
			for _, start := range []int{0, 1} {
				wantUnmoved(t, fmt.Sprintf("from %d to %d at %d", start, to, at), script, stay, func(k int) (int, bool) {
					if k == 0 && at != 0 {
						return start, true
					}
					return to, k == at
				})
			}
		}
	}
	for _, pol := range policies() {
		for _, to := range targets {
			wantUnmoved(t, fmt.Sprintf("everywhere to %d, policy %v", to, pol), script, pol, func(int) (int, bool) { return to, true })
			for _, step := range []int{2, 3, 5} {
				wantUnmoved(t, fmt.Sprintf("at each %d to %d, policy %v", step, to, pol), script, pol, func(k int) (int, bool) { return to, k%step == 1 })
			}
		}
	}
}

// Promise 15: Moves in scripts of all sorts.
func TestMovesInScripts(t *testing.T) {
	all := policies()
	for habit := range habits {
		for seed := range 60 {
			script := scriptOf(t, habit, 9000+seed, 80, 9)
			d := dice(seed)
			wantUnmoved(t, fmt.Sprintf("%s, seed %d", habit, seed), script, all[seed%len(all)], func(int) (int, bool) {
				return targets[d.roll(len(targets))], d.roll(1+seed%4) == 0
			})
			if t.Failed() {
				return
			}
		}
	}
}

// Promise 15: scripts of all sorts, by themselves and with Moves woven in, under caps and policies of every form.
func TestAdaptiveByTheModel(t *testing.T) {
	caps := append([]int{100, 3, 1, 0, -1, impl.MaxCap, impl.MaxCap + 1}, extremes...)
	all := policies()
	for habit := range habits {
		for seed := range 150 {
			hcap := caps[seed%len(caps)]
			script := scriptOf(t, habit, 7000+seed, 100, hcap)
			what := fmt.Sprintf("%s, seed %d", habit, seed)
			wantAdapted(t, what, script, hcap, all[seed%len(all)])
			d := dice(seed)
			with, _ := woven(script, func(int) (int, bool) { return targets[d.roll(len(targets))], d.roll(6) == 0 })
			wantAdapted(t, what+", with Moves", with, hcap, all[(seed+7)%len(all)])
			if t.Failed() {
				return
			}
		}
	}
}

// Promise 15: every policy of small numbers, over a script with edits that are near and far.
func TestAdaptiveSmallPolicies(t *testing.T) {
	script := []impl.Op{opInsert(0, "ab"), opInsert(2, "c"), opInsert(3, "\n"), opDelete(3, 4), opInsert(0, "xy"), opInsert(3, "z"), opMove(1), opDelete(1, 2),
		opDelete(1, 2), opInsert(1, "pqr"), opUndo(), opInsert(1, "s"), opInsert(2, "t"), opRedo(), opUndo(), opInsert(0, "u"), opMove(7), opInsert(1, "v"), opInsert(2, "w")}
	for big := -1; big < 9; big++ {
		for near := -1; near < 5; near++ {
			for run := -1; run < 5; run++ {
				wantAdapted(t, "small numbers", script, 9, impl.Policy{Big: big, Near: near, Run: run})
			}
		}
	}
}

// Promise 15: the least and the greatest integers in every field of every kind, in either engine.
func TestAdaptiveExtremes(t *testing.T) {
	numbers := append([]int{0, 1, 2}, extremes...)
	for kind := -1; kind <= impl.OpDump+1; kind++ {
		for _, live := range []int{0, 1} {
			script := []impl.Op{opInsert(0, "ab\ncd"), opMark(0, 2, 1), opInsert(5, "e"), opDelete(0, 1), opUndo(), opSnap(1), opMove(live)}
			for _, a := range numbers {
				for _, b := range numbers {
					script = append(script, impl.Op{Kind: kind, A: a, B: b, C: a, Text: []byte("x\xff\n")})
				}
			}
			wantAdapted(t, fmt.Sprintf("kind %d", kind), append(script, opDump()), 5, impl.Policy{Big: 9, Near: 2, Run: 2})
		}
	}
}

// wantAdaptedSteps holds the front end's observations against what was worked out by hand.
func wantAdaptedSteps(t *testing.T, what string, hcap int, pol impl.Policy, steps []stepSeen) {
	t.Helper()
	var script []impl.Op
	for _, s := range steps {
		script = append(script, s.op)
	}
	got := wantAdapted(t, what, script, hcap, pol)
	for k, s := range steps {
		if k < len(got.Obs) && s.want != "" && spellObs(got.Obs[k]) != s.want {
			t.Errorf("%s, operation %d, %s: %q, want %q", what, k, spellOp(s.op), spellObs(got.Obs[k]), s.want)
		}
	}
}

// Promise 15, by hand: the group that is open, both stacks and the slots go along with a move.
func TestMoveCarriesAll(t *testing.T) {
	wantAdaptedSteps(t, "all that is kept", 3, stay, []stepSeen{
		{opInsert(0, "ab\n"), "0 3 0, 3 2 1 0 0"},
		{opMark(1, 1, 1), "0 0 0, 3 2 1 0 0"},
		{opSnap(3), "0 0 0, 3 2 1 0 0"},
		{opBegin(), "0 0 0, 3 2 1 0 1"},
		{opInsert(1, "X"), "0 1 0, 4 2 1 0 1"},
		{opMove(1), "0 0 0, 4 2 1 0 1"},
		{opLook(1), "0 2 1, 4 2 1 0 1"},
		{opInsert(0, "Y\n"), "0 2 0, 6 3 1 0 1"},
		{opMove(0), "0 0 0, 6 3 1 0 1"},
		{opDelete(5, 6), "0 1 0, 5 2 1 0 1"},
		{opMove(7), "0 0 0, 5 2 1 0 1"},
		{opBegin(), "7 0 0, 5 2 1 0 1"},
		{opEnd(), "0 3 0, 5 2 2 0 0"},
		{opMove(0), "0 0 0, 5 2 2 0 0"},
		{opDump(), "0 0 0, 5 2 2 0 0 :Y\naXb 1@4R"},
		{opMove(1), "0 0 0, 5 2 2 0 0"},
		{opUndo(), "0 3 0, 3 2 1 1 0"},
		{opMove(0), "0 0 0, 3 2 1 1 0"},
		{opDump(), "0 0 0, 3 2 1 1 0 :ab\n 1@1R"},
		{opUndo(), "0 1 0, 0 1 0 2 0"},
		{opMove(-1), "0 0 0, 0 1 0 2 0"},
		{opSnap(0), "0 0 0, 0 1 0 2 0"},
		{opRedo(), "0 1 0, 3 2 1 1 0"},
		{opMove(0), "0 0 0, 3 2 1 1 0"},
		{opRedo(), "0 3 0, 5 2 2 0 0"},
		{opDump(), "0 0 0, 5 2 2 0 0 :Y\naXb 1@4R"},
		{opMove(1), "0 0 0, 5 2 2 0 0"},
		{opBack(3), "0 0 0, 3 2 1 0 0"},
		{opDump(), "0 0 0, 3 2 1 0 0 :ab\n 1@1R"},
		{opMove(0), "0 0 0, 3 2 1 0 0"},
		{opBack(0), "0 0 0, 0 1 0 2 0"},
		{opMove(1), "0 0 0, 0 1 0 2 0"},
		{opRedo(), "0 1 0, 3 2 1 1 0"},
		{opInsert(3, "1"), "0 1 0, 4 2 2 0 0"},
		{opMove(0), "0 0 0, 4 2 2 0 0"},
		{opInsert(4, "2"), "0 1 0, 5 2 3 0 0"},
		{opMove(1), "0 0 0, 5 2 3 0 0"},
		{opInsert(5, "3"), "0 1 0, 6 2 3 0 0"},
		{opUndo(), "0 1 0, 5 2 2 1 0"},
		{opMove(0), "0 0 0, 5 2 2 1 0"},
		{opUndo(), "0 1 0, 4 2 1 2 0"},
		{opUndo(), "0 1 0, 3 2 0 3 0"},
		{opUndo(), "6 0 0, 3 2 0 3 0"},
		{opBack(4), "11 0 0, 3 2 0 3 0"},
	})
}

// Promise 15, by hand: moves by choice carry a group too.
func TestChoiceCarriesAGroup(t *testing.T) {
	wantAdaptedSteps(t, "typing in a group", 3, impl.Policy{Big: 6, Near: 0, Run: 2}, []stepSeen{
		{opBegin(), "0 0 0, 0 1 0 0 1"},
		{opInsert(0, "a"), "0 1 0, 1 1 0 0 1"},
		{opInsert(1, "b"), "0 1 0, 2 1 0 0 1"},
		{opInsert(2, "\n"), "0 1 0, 3 2 0 0 1"},
		{opInsert(3, "c"), "0 1 0, 4 2 0 0 1"},
		{opInsert(4, "def"), "0 3 0, 7 2 0 0 1"},
		{opDelete(1, 3), "0 2 0, 5 1 0 0 1"},
		{opEnd(), "0 6 0, 5 1 1 0 0"},
		{opUndo(), "0 6 0, 0 1 0 1 0"},
		{opRedo(), "0 6 0, 5 1 1 0 0"},
		{opDump(), "0 0 0, 5 1 1 0 0 :acdef"},
	})
}

// Promise 15: what is spent goes along with a move, and a move spends nothing.
func TestMoveCarriesWhatIsSpent(t *testing.T) {
	for _, to := range []int{0, 1, 2} {
		script := slices.Concat(spending(100000), []impl.Op{opMove(to)}, spending(99999)[1:], []impl.Op{opMove(to), opSlice(0, 990), opMove(to), opSlice(3, 15),
			opSlice(3, 14), opMove(to), opSlice(3, 4), opInsert(0, "x"), opMove(to), opDump()})
		got := wantAdapted(t, fmt.Sprintf("moves to %d", to), script, 9, stay)
		var codes []int
		for _, o := range got.Obs[len(got.Obs)-9:] {
			codes = append(codes, o.Code)
		}
		f := impl.ErrFull
		wantSame(t, fmt.Sprintf("codes with moves to %d", to), codes, []int{0, 0, f, 0, 0, f, f, 0, f})
	}
}

// Promise 15: stores filled as far as they can be, with moves that load them anew.
func TestAdaptiveFullStores(t *testing.T) {
	script := []impl.Op{opInsert(0, ofBytes(impl.MaxText))}
	for k := range 30 {
		script = append(script, opDelete(0, impl.MaxText), opInsert(0, ofBytes(impl.MaxText)), opUndo(), opRedo())
		if k%7 == 3 {
			script = append(script, opMove(2), opSnap(1), opBack(1))
		}
	}
	wantAdapted(t, "a full store", script, 9, stay)
	wantAdapted(t, "a full store, moved by choice", script, 9, impl.Policy{Big: 1, Near: 9, Run: 0})
}

// Promise 15: MaxOps operations are run, one more is not.
func TestAdaptiveMaxOps(t *testing.T) {
	script := make([]impl.Op, impl.MaxOps)
	for k := range script {
		script[k] = []impl.Op{opInsert(k/500, "x\n"), opDelete(0, 1), opMove(k), opMark(k, 0, 0), opDrop(k - 1), opUndo(), opDelete(0, 2), opRedo()}[k%8]
	}
	pol := impl.Policy{Big: 30, Near: 3, Run: 2}
	wantAdapted(t, "MaxOps operations", script, 9, pol)
	for _, more := range []int{1, 2, 50000} {
		got := impl.RunAdaptive(append(slices.Clone(script), make([]impl.Op, more)...), 9, pol)
		if len(got.Obs) != 0 || len(got.Live) != 0 || got.Moves != 0 || got.Code != impl.ErrLarge {
			t.Errorf("%d more: %d observations, %d live, moves %d, code %d", more, len(got.Obs), len(got.Live), got.Moves, got.Code)
		}
	}
}

// Promise 15: caps below 1 are 1, those above MaxCap are MaxCap, in either engine and over moves.
func TestAdaptiveCaps(t *testing.T) {
	var script []impl.Op
	for k := range impl.MaxCap + 5 {
		script = append(script, opInsert(k, "a"))
		if k%100 == 50 {
			script = append(script, opMove(2))
		}
	}
	for range impl.MaxCap + 1 {
		script = append(script, opUndo())
	}
	for _, hcap := range append([]int{0, 1, 2, impl.MaxCap - 1, impl.MaxCap, impl.MaxCap + 1}, extremes...) {
		got := wantAdapted(t, "many groups", script, hcap, stay)
		limit := min(max(hcap, 1), 1000)
		if last := got.Obs[len(got.Obs)-1]; last.Code != impl.ErrEmpty || last.Len != impl.MaxCap+5-limit || last.Redo != limit {
			t.Errorf("cap %d: %s", hcap, spellObs(last))
		}
	}
}

// Promise 15 with rule 4 of chapter 1: the script isn't changed, and no two lists of an answer share memory.
func TestAdaptiveSharesNothing(t *testing.T) {
	script, _ := woven(rich(), func(at int) (int, bool) { return at, at%3 == 1 })
	pol := impl.Policy{Big: 6, Near: 4, Run: 1}
	in := slices.Clone(script)
	var texts [][]byte
	for k := range in {
		part, whole := spare(in[k].Text, 'w')
		in[k].Text = part
		texts = append(texts, slices.Clone(whole))
	}
	got := impl.RunAdaptive(in, 5, pol)
	for k := range in {
		wantSame(t, "a script's text", in[k].Text[:cap(in[k].Text)][:len(texts[k])], texts[k])
		overwrite(in[k].Text)
	}
	want := impl.RunAdaptive(script, 5, pol)
	for k := range got.Obs {
		wantAllObs(t, "behind writing into what came before", script[k:], got.Obs[k:], want.Obs[k:])
		overwrite(got.Obs[k].Text)
		scribbleMarks(got.Obs[k].Marks)
	}
	wantSame(t, "live", got.Live, want.Live)
	wantAllObs(t, "a run behind another", script, impl.RunAdaptive(script, 5, pol).Obs, want.Obs)
}
