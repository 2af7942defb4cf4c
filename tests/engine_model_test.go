package tests

import (
	"fmt"
	"slices"
	"testing"

	"loop.example/s01685/impl"
)

// modelEdit is an edit's record.
type modelEdit struct {
	insertion     bool
	at            int
	runes         []int32
	before, after []impl.Mark
}

// modelDoc is what a snapshot keeps.
type modelDoc struct {
	text       []int32
	marks      []impl.Mark
	undo, redo [][]modelEdit
}

// copied shares no list that is ever written to.
func (d modelDoc) copied() modelDoc {
	return modelDoc{slices.Clone(d.text), slices.Clone(d.marks), slices.Clone(d.undo), slices.Clone(d.redo)}
}

// modelEngine is chapter 7 over a plain list of runes. Beside it, it makes the calls to both cores that the chapter tells,
// to the models of these.
type modelEngine struct {
	modelDoc
	t      *testing.T
	cap    int
	open   bool
	group  []modelEdit
	slots  map[int]modelDoc
	spent  int
	pieces impl.PieceBuf
	lines  impl.LineBuf
	plain  bool // the cores are left alone, for scripts that are too long for their models
}

func newModel(t *testing.T, hcap int) *modelEngine {
	return &modelEngine{t: t, cap: min(max(hcap, 1), 1000), slots: map[int]modelDoc{}, pieces: modelPieceLoad(nil), lines: modelLineLoad(nil)}
}

// step answers an operation.
func (e *modelEngine) step(op impl.Op) impl.Obs {
	o := e.answer(op)
	o.Len, o.Lines, o.Undo, o.Redo = len(e.text), breaksIn(e.text)+1, len(e.undo), len(e.redo)
	if e.open {
		o.Open = 1
	}
	return o
}

func (e *modelEngine) answer(op impl.Op) impl.Obs {
	refuse := func(code int) impl.Obs { return impl.Obs{Code: code} }
	switch op.Kind {
	case 1, 2, 3, 4, 5:
		return e.answerText(op)
	case 6, 7, 8:
		return e.answerMark(op)
	case 9, 10:
		return e.answerUndo(op.Kind == 9)
	case 11:
		if e.open {
			return refuse(impl.ErrNested)
		}
		e.open, e.group = true, nil
	case 12:
		if !e.open {
			return refuse(impl.ErrNoGroup)
		}
		e.open = false
		if len(e.group) > 0 {
			e.pushUndo(e.group)
		}
		return impl.Obs{X: len(e.group)}
	case 13, 14:
		return e.answerSlot(op)
	case 15:
	case 16:
		if e.spent+len(e.text)+len(e.marks) > 200000 {
			return refuse(impl.ErrFull)
		}
		e.spent += len(e.text) + len(e.marks)
		return impl.Obs{Text: slices.Clone(e.text), Marks: slices.Clone(e.marks)}
	default:
		return refuse(impl.ErrKind)
	}
	return impl.Obs{}
}

func (e *modelEngine) answerText(op impl.Op) impl.Obs {
	length := len(e.text)
	inside := 0 <= op.A && op.A <= op.B && op.B <= length
	if op.Kind == 1 || op.Kind == 4 {
		inside = 0 <= op.A && op.A <= length
	}
	if op.Kind != 5 && !inside {
		return impl.Obs{Code: impl.ErrRange}
	}
	switch op.Kind {
	case 1:
		runes := impl.DecodeText(op.Text)
		if len(runes) == 0 {
			return impl.Obs{}
		}
		if length+len(runes) > 8192 || e.spent+len(runes) > 200000 {
			return impl.Obs{Code: impl.ErrFull}
		}
		e.spent += len(runes)
		e.edit(modelEdit{insertion: true, at: op.A, runes: runes})
		return impl.Obs{X: len(runes)}
	case 2:
		if op.A < op.B {
			e.edit(modelEdit{at: op.A, runes: slices.Clone(e.text[op.A:op.B])})
		}
		return impl.Obs{X: op.B - op.A}
	case 3:
		if e.spent+op.B-op.A > 200000 {
			return impl.Obs{Code: impl.ErrFull}
		}
		e.spent += op.B - op.A
		modelFind(&e.lines, op.A)
		return impl.Obs{Text: slices.Clone(e.text[op.A:op.B])}
	case 4:
		modelFind(&e.lines, op.A)
		line, col := place(e.text, op.A)
		return impl.Obs{X: line, Y: col}
	}
	lines := linesOf(e.text)
	if op.A < 0 || op.A >= len(lines) || op.B < 0 || op.B > len(lines[op.A]) {
		return impl.Obs{Code: impl.ErrPlace}
	}
	off := op.B
	for _, line := range lines[:op.A] {
		off += len(line) + 1
	}
	for !e.plain && len(e.lines.Starts) < op.A+1 {
		modelLearn(&e.lines)
	}
	return impl.Obs{X: off}
}

// rankOf is where an id stands in a table, or -1.
func rankOf(table []impl.Mark, id int) int {
	return slices.IndexFunc(table, func(m impl.Mark) bool { return m.Id == id })
}

func (e *modelEngine) answerMark(op impl.Op) impl.Obs {
	at := rankOf(e.marks, op.A)
	if op.Kind == 6 {
		code := impl.OK
		switch {
		case op.C != 0 && op.C != 1 || op.A < -1000000000 || op.A > 1000000000:
			code = impl.ErrValue
		case at >= 0:
			code = impl.ErrTaken
		case op.B < 0 || op.B > len(e.text):
			code = impl.ErrRange
		case len(e.marks) == 128:
			code = impl.ErrFull
		default:
			e.marks = inOrder(append(e.marks, impl.Mark{Id: op.A, Off: op.B, Grav: op.C}))
		}
		return impl.Obs{Code: code}
	}
	if at < 0 {
		return impl.Obs{Code: impl.ErrUnknown}
	}
	m := e.marks[at]
	if op.Kind == 8 {
		return impl.Obs{X: m.Off, Y: m.Grav}
	}
	e.marks = slices.Delete(slices.Clone(e.marks), at, at+1)
	return impl.Obs{X: m.Off}
}

func (e *modelEngine) answerSlot(op impl.Op) impl.Obs {
	if e.open {
		return impl.Obs{Code: impl.ErrOpen}
	}
	kept, there := e.slots[op.A]
	if op.A < 0 || op.A > 7 || op.Kind == 14 && !there {
		return impl.Obs{Code: impl.ErrSlot}
	}
	if op.Kind == 13 {
		e.slots[op.A] = e.modelDoc.copied()
		return impl.Obs{}
	}
	e.modelDoc = kept.copied()
	if !e.plain {
		e.pieces, e.lines = modelPieceLoad(slices.Clone(e.text)), modelLineLoad(e.text)
	}
	return impl.Obs{}
}

// put and take are the two changes that can be made to a text; marks move with it.
func (e *modelEngine) put(at int, runes []int32) {
	e.text = slices.Concat(e.text[:at], runes, e.text[at:])
	e.marks = modelMarksInsert(e.marks, at, len(runes))
	if !e.plain {
		e.pieces = modelPieceInsert(e.t, e.pieces, at, runes)
		e.lines = modelLineInsert(e.lines, at, runes)
	}
}

func (e *modelEngine) take(at int, runes []int32) {
	end := at + len(runes)
	if !slices.Equal(e.text[at:end], runes) {
		e.t.Errorf("the test's own model takes out what isn't there")
	}
	e.text = slices.Concat(e.text[:at], e.text[end:])
	e.marks = modelMarksDelete(e.marks, at, end)
	if !e.plain {
		e.pieces = modelPieceDelete(e.t, e.pieces, at, end)
		e.lines = modelLineDelete(e.lines, at, end)
	}
}

// edit makes an edit and its record.
func (e *modelEngine) edit(r modelEdit) {
	r.before = slices.Clone(e.marks)
	if r.insertion {
		e.put(r.at, r.runes)
	} else {
		e.take(r.at, r.runes)
	}
	r.after = slices.Clone(e.marks)
	e.redo = nil
	if e.open {
		e.group = append(e.group, r)
	} else {
		e.pushUndo([]modelEdit{r})
	}
}

func (e *modelEngine) pushUndo(group []modelEdit) {
	e.undo = append(slices.Clone(e.undo), group)
	if len(e.undo) > e.cap {
		e.undo = e.undo[1:]
	}
}

// answerUndo undoes a group or does it again.
func (e *modelEngine) answerUndo(undo bool) impl.Obs {
	from := e.redo
	if undo {
		from = e.undo
	}
	if e.open {
		return impl.Obs{Code: impl.ErrOpen}
	}
	if len(from) == 0 {
		return impl.Obs{Code: impl.ErrEmpty}
	}
	group := from[len(from)-1]
	cost := 0
	for _, r := range group {
		if r.insertion != undo {
			cost += len(r.runes)
		}
	}
	if e.spent+cost > 200000 {
		return impl.Obs{Code: impl.ErrFull}
	}
	e.spent += cost
	for k := range group {
		if undo {
			e.again(group[len(group)-1-k], false)
		} else {
			e.again(group[k], true)
		}
	}
	if undo {
		e.undo, e.redo = e.undo[:len(e.undo)-1], append(slices.Clone(e.redo), group)
	} else {
		e.redo, e.undo = e.redo[:len(e.redo)-1], append(slices.Clone(e.undo), group)
	}
	return impl.Obs{X: len(group)}
}

// again makes an edit, or its opposite, and sets the marks that its table knows.
func (e *modelEngine) again(r modelEdit, forward bool) {
	table := r.before
	if forward {
		table = r.after
	}
	if r.insertion == forward {
		e.put(r.at, r.runes)
	} else {
		e.take(r.at, r.runes)
	}
	for k, m := range e.marks {
		if at := rankOf(table, m.Id); at >= 0 {
			e.marks[k].Off = table[at].Off
		}
	}
	e.marks = inOrder(e.marks)
}

// wantObs holds what one operation answers against what it should.
func wantObs(t *testing.T, what string, got, want impl.Obs) {
	t.Helper()
	numbers := func(o impl.Obs) [8]int { return [8]int{o.Code, o.X, o.Y, o.Len, o.Lines, o.Undo, o.Redo, o.Open} }
	if numbers(got) != numbers(want) {
		t.Errorf("%s: %v, want %v (code, x, y, length, lines, undo, redo, open)", what, numbers(got), numbers(want))
	}
	wantSame(t, what+": text", got.Text, want.Text)
	wantSame(t, what+": marks", got.Marks, want.Marks)
}

// runs is what both engines answer.
type runs struct {
	piece impl.PieceOut
	line  impl.LineOut
}

func runBoth(script []impl.Op, hcap int) runs {
	return runs{impl.RunPiece(script, hcap), impl.RunLine(script, hcap)}
}

// wantRuns holds both engines' observations and their cores against the model's. It tells the model as it stands then.
func wantRuns(t *testing.T, what string, script []impl.Op, hcap int) *modelEngine {
	t.Helper()
	e := newModel(t, hcap)
	var want []impl.Obs
	for _, op := range script {
		want = append(want, e.step(op))
	}
	got := runBoth(script, hcap)
	wantAllObs(t, what+", pieces", script, got.piece.Obs, want)
	wantAllObs(t, what+", lines", script, got.line.Obs, want)
	wantPieces(t, what, got.piece.Final, got.piece.Code, e.pieces)
	wantLines(t, what, got.line.Final, got.line.Code, e.lines)
	return e
}

// wantAllObs stops at the first operation that fails: what follows can't be right.
func wantAllObs(t *testing.T, what string, script []impl.Op, got, want []impl.Obs) {
	t.Helper()
	if len(got) != len(want) {
		t.Errorf("%s: %d observations of %d operations", what, len(got), len(want))
		return
	}
	for k := range want {
		wantObs(t, fmt.Sprintf("%s, operation %d, %s", what, k, spellOp(script[k])), got[k], want[k])
		if t.Failed() {
			return
		}
	}
}

func spellOp(op impl.Op) string {
	return fmt.Sprintf("{kind %d, %d, %d, %d, %.40q}", op.Kind, op.A, op.B, op.C, op.Text)
}

// Operations, each by its name.
func opInsert(at int, text string) impl.Op {
	return impl.Op{Kind: impl.OpInsert, A: at, Text: []byte(text)}
}
func opDelete(lo, hi int) impl.Op { return impl.Op{Kind: impl.OpDelete, A: lo, B: hi} }
func opSlice(lo, hi int) impl.Op  { return impl.Op{Kind: impl.OpSlice, A: lo, B: hi} }
func opLineCol(off int) impl.Op   { return impl.Op{Kind: impl.OpLineCol, A: off} }
func opOffset(line, col int) impl.Op {
	return impl.Op{Kind: impl.OpOffset, A: line, B: col}
}
func opMark(id, off, grav int) impl.Op { return impl.Op{Kind: impl.OpMark, A: id, B: off, C: grav} }
func opDrop(id int) impl.Op            { return impl.Op{Kind: impl.OpDrop, A: id} }
func opLook(id int) impl.Op            { return impl.Op{Kind: impl.OpLook, A: id} }
func opUndo() impl.Op                  { return impl.Op{Kind: impl.OpUndo} }
func opRedo() impl.Op                  { return impl.Op{Kind: impl.OpRedo} }
func opBegin() impl.Op                 { return impl.Op{Kind: impl.OpBegin} }
func opEnd() impl.Op                   { return impl.Op{Kind: impl.OpEnd} }
func opSnap(slot int) impl.Op          { return impl.Op{Kind: impl.OpSnap, A: slot} }
func opBack(slot int) impl.Op          { return impl.Op{Kind: impl.OpBack, A: slot} }
func opMove(target int) impl.Op        { return impl.Op{Kind: impl.OpMove, A: target} }
func opDump() impl.Op                  { return impl.Op{Kind: impl.OpDump} }
