package tests

import (
	"fmt"
	"strings"
	"testing"

	"loop.example/s01685/impl"
)

// habits are the kinds that scripts of a sort are made of; a kind that stands there twice comes twice as often. Kind 99
// stands for none.
var habits = map[string][]int{
	"edits":  {1, 1, 1, 1, 2, 2, 3, 4, 5, 9, 10, 16},
	"groups": {1, 1, 2, 11, 11, 12, 9, 9, 10, 10, 16},
	"marks":  {1, 2, 6, 6, 6, 7, 8, 9, 10, 16},
	"slots":  {1, 1, 2, 6, 7, 9, 9, 10, 11, 12, 12, 13, 13, 14, 14, 16},
	"places": {1, 1, 2, 3, 3, 4, 4, 5, 5, 9, 10, 14, 13},
	"all":    {1, 1, 1, 2, 3, 4, 5, 6, 6, 7, 8, 9, 9, 10, 11, 12, 12, 13, 14, 15, 16, 99},
}

// putBytes are texts to put in: none, breaks at all places, runes of several bytes, and bytes that are no UTF-8.
var putBytes = []string{"", "a", "b\n", "\n", "cde", "\n\nf", "gh\ni\njk", "\u00e9\u20ac\U0001f600", "\xff", "x\xe2\x82", "\xc3\n\x80", "\x00",
	"0123456789abcdef", "a line that is longer\nthan a piece of sixteen\n"}

// scribe writes scripts. It follows the model, so that most of what it writes can be done.
type scribe struct {
	*diceState
	e     *modelEngine
	kinds []int
}

// near is a number from 0 to n, or one that is just outside, or far outside.
func (s *scribe) near(n int) int {
	switch s.roll(40) {
	case 0:
		return -1
	case 1, 2:
		return n + 1
	case 3:
		return extremes[s.roll(len(extremes))]
	case 4, 5, 6:
		return n
	case 7, 8:
		return 0
	}
	return s.roll(n + 1)
}

// span is two ends of a range.
func (s *scribe) span() (lo, hi int) {
	lo = s.near(len(s.e.text))
	if s.roll(8) == 0 || lo < 0 || lo > len(s.e.text) {
		return lo, s.near(len(s.e.text))
	}
	return lo, min(len(s.e.text), lo+s.roll(12))
}

func (s *scribe) id() int {
	return []int{1, 2, 3, 4, 5, 0, -1, -2, impl.MaxId, -impl.MaxId, impl.MaxId + 1, 77}[s.roll(12)]
}

// next writes an operation that fits the model as it stands.
func (s *scribe) next() impl.Op {
	op := impl.Op{Kind: s.kinds[s.roll(len(s.kinds))]}
	switch op.Kind {
	case impl.OpInsert:
		op.A, op.Text = s.near(len(s.e.text)), []byte(putBytes[s.roll(len(putBytes))])
	case impl.OpDelete, impl.OpSlice:
		op.A, op.B = s.span()
	case impl.OpLineCol:
		op.A = s.near(len(s.e.text))
	case impl.OpOffset:
		lines := linesOf(s.e.text)
		op.A = s.near(len(lines) - 1)
		op.B = s.near(len(lines[min(max(op.A, 0), len(lines)-1)]))
	case impl.OpMark:
		op.A, op.B, op.C = s.id(), s.near(len(s.e.text)), s.roll(2)
		if s.roll(20) == 0 {
			op.C = s.near(1)
		}
	case impl.OpDrop, impl.OpLook:
		op.A = s.id()
	case impl.OpSnap, impl.OpBack:
		op.A = s.roll(3)
		if s.roll(6) == 0 {
			op.A = s.near(impl.Slots - 1)
		}
	case impl.OpMove:
		op.A = s.near(1)
	case 99:
		op.Kind = append([]int{0, 17, 18}, extremes...)[s.roll(3+len(extremes))]
	}
	// Fields that a kind doesn't name are ignored.
	if s.roll(5) == 0 && op.Kind > impl.OpMark {
		op.B, op.C, op.Text = s.near(5), s.near(5), []byte("ignored")
	}
	return op
}

// scriptOf writes a script of n operations by a habit.
func scriptOf(t *testing.T, habit string, seed, n, hcap int) []impl.Op {
	s := &scribe{dice(seed), newModel(t, hcap), habits[habit]}
	s.e.plain = true
	var script []impl.Op
	for range n {
		op := s.next()
		s.e.step(op)
		script = append(script, op)
	}
	return script
}

// spellObs tells code, x, y, then length, lines, undo, redo, open, then the text if there is one, then the marks.
func spellObs(o impl.Obs) string {
	s := fmt.Sprintf("%d %d %d, %d %d %d %d %d", o.Code, o.X, o.Y, o.Len, o.Lines, o.Undo, o.Redo, o.Open)
	if len(o.Text) > 0 {
		s += " :" + string(impl.EncodeText(o.Text))
	}
	for _, m := range o.Marks {
		s += fmt.Sprintf(" %d@%d%c", m.Id, m.Off, "LR"[m.Grav])
	}
	return s
}

// stepSeen is an operation and what it answers, as spellObs tells it. What is empty isn't looked at.
type stepSeen struct {
	op   impl.Op
	want string
}

// wantSteps holds a script whose answers were worked out by hand against both engines and the model.
func wantSteps(t *testing.T, what string, hcap int, steps []stepSeen) {
	t.Helper()
	var script []impl.Op
	for _, s := range steps {
		script = append(script, s.op)
	}
	wantRuns(t, what, script, hcap)
	got := runBoth(script, hcap)
	for which, obs := range map[string][]impl.Obs{"pieces": got.piece.Obs, "lines": got.line.Obs} {
		if len(obs) != len(steps) {
			t.Errorf("%s, %s: %d observations", what, which, len(obs))
			continue
		}
		for k, s := range steps {
			if told := spellObs(obs[k]); s.want != "" && told != s.want {
				t.Errorf("%s, %s, operation %d, %s: %q, want %q", what, which, k, spellOp(s.op), told, s.want)
			}
		}
	}
}

// ofBytes is a text of n letters.
func ofBytes(n int) string { return strings.Repeat("a", n) }
