package tests

import (
	"fmt"
	"slices"
	"strings"
	"testing"

	"loop.example/s01685/impl"
)

// Promise 11: a text that meets MaxText exactly and would pass it by one.
func TestRunMaxText(t *testing.T) {
	most := ofBytes(impl.MaxText)
	for _, c := range []struct {
		name   string
		script []impl.Op
		code   int
		length int
	}{
		{"at once", []impl.Op{opInsert(0, most)}, impl.OK, 8192},
		{"at once, one more", []impl.Op{opInsert(0, most+"a")}, impl.ErrFull, 0},
		{"at once, in more bytes", []impl.Op{opInsert(0, strings.Repeat("\u20ac", impl.MaxText))}, impl.OK, 8192},
		{"at once, in more bytes, one more", []impl.Op{opInsert(0, strings.Repeat("\u20ac", impl.MaxText)+"\xff")}, impl.ErrFull, 0},
		{"at once, all breaks", []impl.Op{opInsert(0, strings.Repeat("\n", impl.MaxText))}, impl.OK, 8192},
		{"one by one", []impl.Op{opInsert(0, most[1:]), opInsert(5, "b")}, impl.OK, 8192},
		{"two where one has room", []impl.Op{opInsert(0, most[1:]), opInsert(5, "bc")}, impl.ErrFull, 8191},
		{"one more", []impl.Op{opInsert(0, most), opInsert(8192, "b")}, impl.ErrFull, 8192},
		{"none more", []impl.Op{opInsert(0, most), opInsert(8192, "")}, impl.OK, 8192},
		{"outside comes first", []impl.Op{opInsert(0, most), opInsert(8193, "b")}, impl.ErrRange, 8192},
		{"a rune out and one in", []impl.Op{opInsert(0, most), opDelete(7, 8), opInsert(0, "b")}, impl.OK, 8192},
		{"undone up to it", []impl.Op{opInsert(0, most), opDelete(0, 8192), opUndo()}, impl.OK, 8192},
		{"done again up to it", []impl.Op{opInsert(0, most), opUndo(), opRedo()}, impl.OK, 8192},
		{"very many bytes", []impl.Op{opInsert(0, ofBytes(1000000))}, impl.ErrFull, 0},
	} {
		wantRuns(t, c.name, c.script, 9)
		got := runBoth(c.script, 9)
		for _, o := range []impl.Obs{got.piece.Obs[len(c.script)-1], got.line.Obs[len(c.script)-1]} {
			if o.Code != c.code || o.Len != c.length {
				t.Errorf("%s: code %d, length %d, want %d and %d", c.name, o.Code, o.Len, c.code, c.length)
			}
		}
	}
}

// spending is a script after which so much is spent. It puts a text of 1000 runes in, which is told again and again.
func spending(n int) []impl.Op {
	script := []impl.Op{opInsert(0, strings.Repeat("abcd\nefgh\n", 100))}
	for n -= 1000; n > 0; {
		part := min(n, 1000)
		script = append(script, opSlice(0, part))
		n -= part
	}
	return script
}

// Promise 11: each operation that spends meets MaxSpent exactly, and would pass it by one.
func TestRunMaxSpent(t *testing.T) {
	for _, c := range []struct {
		name  string
		ahead []impl.Op // what is done before, which spends as much as told
		spent int
		last  impl.Op
		cost  int
	}{
		{"Insert", nil, 0, opInsert(7, "xyz"), 3},
		{"Insert of one", nil, 0, opInsert(7, "\n"), 1},
		{"Insert of more bytes than runes", nil, 0, opInsert(7, "\u20ac\xff"), 2},
		{"Slice", nil, 0, opSlice(100, 400), 300},
		{"Slice of one", nil, 0, opSlice(0, 1), 1},
		{"Dump", nil, 0, opDump(), 1000},
		{"Dump with marks", []impl.Op{opMark(1, 5, 0), opMark(2, 5, 0)}, 0, opDump(), 1002},
		{"Dump of a shorter text", []impl.Op{opDelete(0, 990), opMark(1, 5, 0)}, 0, opDump(), 11},
		{"Undo of a deletion", []impl.Op{opDelete(10, 30)}, 0, opUndo(), 20},
		{"Undo of a group", []impl.Op{opBegin(), opDelete(10, 15), opInsert(3, "four"), opDelete(0, 2), opEnd()}, 4, opUndo(), 7},
		{"Redo of an insertion", []impl.Op{opInsert(0, "four"), opUndo()}, 4, opRedo(), 4},
		{"Redo of a group", []impl.Op{opBegin(), opDelete(10, 15), opInsert(3, "four"), opInsert(0, "xy"), opEnd(), opUndo()}, 11, opRedo(), 6},
	} {
		for _, over := range []int{0, 1} {
			// Here the operation's cost would just be met, or passed by one.
			script := slices.Concat(spending(impl.MaxSpent-c.spent-c.cost+over), c.ahead, []impl.Op{c.last})
			e := wantRuns(t, c.name, script, 9)
			if over == 0 && e.spent != impl.MaxSpent {
				t.Errorf("%s: the test's own script spends %d", c.name, e.spent)
			}
			got := runBoth(script, 9)
			for _, o := range []impl.Obs{got.piece.Obs[len(script)-1], got.line.Obs[len(script)-1]} {
				if want := over * impl.ErrFull; o.Code != want {
					t.Errorf("%s, %d over: code %d, want %d", c.name, over, o.Code, want)
				}
			}
		}
	}
}

// Promise 11: when all is spent, whatever spends nothing can still be done, and nothing else; and a Back brings nothing
// of it back.
func TestRunAllSpent(t *testing.T) {
	ahead := []impl.Op{opMark(1, 500, 1), opSnap(2), opInsert(4, "put"), opDelete(0, 9), opUndo(), opUndo(), opDelete(20, 22)}
	steps := []stepSeen{
		{opSlice(3, 4), "10 0 0, 998 201 2 0 0"},
		{opDump(), "10 0 0, 998 201 2 0 0"},
		{opInsert(0, "x"), "10 0 0, 998 201 2 0 0"},
		{opUndo(), "10 0 0, 998 201 2 0 0"},
		{opInsert(0, ""), "0 0 0, 998 201 2 0 0"},
		{opSlice(3, 3), "0 0 0, 998 201 2 0 0"},
		{opLineCol(6), "0 1 1, 998 201 2 0 0"},
		{opOffset(1, 1), "0 6 0, 998 201 2 0 0"},
		{opLook(1), "0 498 1, 998 201 2 0 0"},
		{opMark(2, 0, 0), "0 0 0, 998 201 2 0 0"},
		{opDelete(0, 5), "0 5 0, 993 200 3 0 0"},
		{opBegin(), "0 0 0, 993 200 3 0 1"},
		{opInsert(0, "x"), "10 0 0, 993 200 3 0 1"},
		{opDelete(0, 5), "0 5 0, 988 199 3 0 1"},
		{opEnd(), "0 1 0, 988 199 4 0 0"},
		{opUndo(), "10 0 0, 988 199 4 0 0"},
		{opBack(2), "0 0 0, 1000 201 1 0 0"},
		{opLook(1), "0 500 1, 1000 201 1 0 0"},
		{opSlice(0, 1), "10 0 0, 1000 201 1 0 0"},
		{opUndo(), "0 1 0, 0 1 0 1 0"},
		{opDump(), "10 0 0, 0 1 0 1 0"},
		{opRedo(), "10 0 0, 0 1 0 1 0"},
		{opDrop(1), "0 0 0, 0 1 0 1 0"},
		{opDump(), "0 0 0, 0 1 0 1 0"},
		{opSnap(3), "0 0 0, 0 1 0 1 0"},
		{opRedo(), "10 0 0, 0 1 0 1 0"},
	}
	var all []stepSeen
	for _, op := range slices.Concat(spending(impl.MaxSpent-3-9), ahead) {
		all = append(all, stepSeen{op, ""})
	}
	wantSteps(t, "all spent", 9, append(all, steps...))
}

// Promise 11: MaxOps operations are run, one more is not.
func TestRunMaxOps(t *testing.T) {
	script := make([]impl.Op, impl.MaxOps)
	for k := range script {
		script[k] = []impl.Op{opInsert(k/500, "x\n"), opDelete(0, 1), opMark(k, 0, 0), opDrop(k - 1), opUndo(), opDelete(0, 2), opRedo()}[k%7]
	}
	wantRuns(t, "MaxOps operations", script, 9)
	for _, more := range []int{1, 2, 50000} {
		got := runBoth(append(slices.Clone(script), make([]impl.Op, more)...), 9)
		if len(got.piece.Obs) != 0 || len(got.line.Obs) != 0 {
			t.Errorf("%d more: %d and %d observations", more, len(got.piece.Obs), len(got.line.Obs))
		}
		wantNoPieces(t, fmt.Sprintf("%d more", more), got.piece.Final, got.piece.Code, impl.ErrLarge)
		wantNoLines(t, fmt.Sprintf("%d more", more), got.line.Final, got.line.Code, impl.ErrLarge)
	}
}

// Promise 11: no script at all.
func TestRunNothing(t *testing.T) {
	for _, hcap := range append([]int{0, 1}, extremes...) {
		wantRuns(t, "nothing", nil, hcap)
		wantRuns(t, "nothing", []impl.Op{}, hcap)
	}
}

// Promise 11: MaxMarks marks, and one more; those that are dropped make room.
func TestRunMaxMarks(t *testing.T) {
	script := []impl.Op{opInsert(0, "abc")}
	for k := range impl.MaxMarks {
		script = append(script, opMark(k, k%4, k%2))
	}
	script = append(script, opMark(500, 0, 0), opMark(500, 4, 0), opMark(7, 0, 0), opDrop(7), opMark(500, 0, 0), opMark(7, 0, 0), opDump())
	wantRuns(t, "MaxMarks", script, 9)
	obs := impl.RunLine(script, 9).Obs[1+impl.MaxMarks:]
	for k, want := range []int{impl.ErrFull, impl.ErrRange, impl.ErrTaken, impl.OK, impl.OK, impl.ErrFull, impl.OK} {
		if obs[k].Code != want {
			t.Errorf("behind MaxMarks marks, operation %d: code %d, want %d", k, obs[k].Code, want)
		}
	}
}
