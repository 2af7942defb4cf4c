package tests

import (
	"fmt"
	"slices"
	"testing"

	"loop.example/s01685/impl"
)

// around are marks of both gravities at all offsets from 0 to 7; those of odd ids have gravity 1.
func around() []impl.Mark {
	var table []impl.Mark
	for off := range 8 {
		table = append(table, impl.Mark{Id: 2 * off, Off: off}, impl.Mark{Id: 2*off + 1, Off: off, Grav: 1})
	}
	return table
}

// Promise 9: marks before, at and behind the place of an insertion, by hand.
func TestMarksInsertByHand(t *testing.T) {
	five := marked("3@2R 1@5L 2@5R 9@5L 4@6L")
	for _, c := range []struct {
		name   string
		off, n int
		want   []impl.Mark
	}{
		{"before all", 0, 3, marked("3@5R 1@8L 2@8R 9@8L 4@9L")},
		{"at a right one", 2, 1, marked("3@3R 1@6L 2@6R 9@6L 4@7L")},
		{"between", 3, 1, marked("3@2R 1@6L 2@6R 9@6L 4@7L")},
		{"at three, one of which goes", 5, 1, marked("3@2R 1@5L 9@5L 2@6R 4@7L")},
		{"at three, the one that goes over another", 5, 4, marked("3@2R 1@5L 9@5L 2@9R 4@10L")},
		{"at a left one, the last", 6, 9, five},
		{"behind all", 7, 9, five},
		{"nothing before all", 0, 0, five},
		{"nothing at three", 5, 0, five},
	} {
		got, code := impl.MarksInsert(five, c.off, c.n)
		wantMarks(t, c.name, got, code, c.want)
	}
}

// Promise 9: marks before a deleted range, at both ends of it, inside and behind, by hand.
func TestMarksDeleteByHand(t *testing.T) {
	five := marked("8@1R 7@3L 3@4R 5@6L 1@7R")
	for _, c := range []struct {
		name   string
		lo, hi int
		want   []impl.Mark
	}{
		{"from one to another, one inside", 3, 6, marked("8@1R 3@3R 5@3L 7@3L 1@4R")},
		{"one inside", 2, 4, marked("8@1R 3@2R 7@2L 5@4L 1@5R")},
		{"all of them", 0, 8, marked("1@0R 3@0R 5@0L 7@0L 8@0R")},
		{"all of them, to the last text there is", 0, impl.MaxText, marked("1@0R 3@0R 5@0L 7@0L 8@0R")},
		{"before all", 0, 1, marked("8@0R 7@2L 3@3R 5@5L 1@6R")},
		{"behind all", 7, 9, five},
		{"just behind", 8, 9, five},
		{"nothing", 4, 4, five},
		{"nothing at the start", 0, 0, five},
		{"nothing at MaxText", impl.MaxText, impl.MaxText, five},
	} {
		got, code := impl.MarksDelete(five, c.lo, c.hi)
		wantMarks(t, c.name, got, code, c.want)
	}
}

// Promise 9: every insertion and every deletion in many tables, against marks strung up with the runes; and deleting what
// was inserted gives the table of before.
func TestMarksEverywhere(t *testing.T) {
	for _, table := range append(fewMarks(), around()) {
		for off := range 9 {
			for n := range 4 {
				what := fmt.Sprintf("%d runes at %d in %v", n, off, table)
				want := modelMarksInsert(table, off, n)
				got, code := impl.MarksInsert(table, off, n)
				wantMarks(t, what, got, code, want)
				got, code = impl.MarksDelete(want, off, off+n)
				wantMarks(t, "back from "+what, got, code, table)
			}
			for hi := off; hi < 9; hi++ {
				got, code := impl.MarksDelete(table, off, hi)
				wantMarks(t, fmt.Sprintf("%d to %d out of %v", off, hi, table), got, code, modelMarksDelete(table, off, hi))
			}
		}
	}
}

// Promise 9: tables with as many marks as there may be, and with marks at the last offset.
func TestManyMarks(t *testing.T) {
	for _, n := range []int{1, 2, 3, 50, impl.MaxMarks - 1, impl.MaxMarks} {
		table := manyMarks(n)
		for _, pair := range [][2]int{{0, 0}, {0, 1}, {0, impl.MaxText}, {99, 101}, {100, 200}, {2500, impl.MaxText}, {impl.MaxText, impl.MaxText}} {
			got, code := impl.MarksDelete(table, pair[0], pair[1])
			wantMarks(t, fmt.Sprintf("%v out of %d marks", pair, n), got, code, modelMarksDelete(table, pair[0], pair[1]))
		}
		low := slices.DeleteFunc(slices.Clone(table), func(m impl.Mark) bool { return m.Off == impl.MaxText })
		for _, pair := range [][2]int{{0, 1}, {0, 5692}, {300, 7}, {2499, 5000}, {impl.MaxText, impl.MaxText}, {impl.MaxText, 0}} {
			got, code := impl.MarksInsert(low, pair[0], pair[1])
			wantMarks(t, fmt.Sprintf("%v into %d marks", pair, n), got, code, modelMarksInsert(low, pair[0], pair[1]))
		}
	}
}

// Promise 9: marks at one place stand in the order of their ids, whatever order they come in.
func TestMarkSetInAnyOrder(t *testing.T) {
	all := marked("-7@3R 0@3L 2@3R 5@3L 1@2L -8@4R")
	want := marked("1@2L -7@3R 0@3L 2@3R 5@3L -8@4R")
	var put func(table, rest []impl.Mark)
	put = func(table, rest []impl.Mark) {
		if len(rest) == 0 {
			wantSame(t, "all put in", table, want)
		}
		for k, m := range rest {
			got, code := impl.MarkSet(table, m, 4)
			wantMarks(t, fmt.Sprintf("%v into %v", m, table), got, code, inOrder(append(slices.Clone(table), m)))
			put(got, slices.Delete(slices.Clone(rest), k, k+1))
		}
	}
	put(nil, all)
}

// Promise 9: what is met exactly and passed by one by a mark that is put in. The other marks may stand behind the text.
func TestMarkSetLimits(t *testing.T) {
	far := marked("1@100L 2@8192R")
	for _, c := range []struct {
		name   string
		table  []impl.Mark
		m      impl.Mark
		length int
		code   int
	}{
		{"into nothing", nil, impl.Mark{}, 0, impl.OK},
		{"at the text's end", nil, impl.Mark{Off: 9}, 9, impl.OK},
		{"behind the text's end", nil, impl.Mark{Off: 10}, 9, impl.ErrRange},
		{"behind the end of nothing", nil, impl.Mark{Off: 1}, 0, impl.ErrRange},
		{"before the text", nil, impl.Mark{Off: -1}, 9, impl.ErrRange},
		{"at MaxText", nil, impl.Mark{Off: impl.MaxText}, impl.MaxText, impl.OK},
		{"behind MaxText", nil, impl.Mark{Off: impl.MaxText + 1}, impl.MaxText, impl.ErrRange},
		{"a text that is too long", nil, impl.Mark{}, impl.MaxText + 1, impl.ErrBad},
		{"a text of less than nothing", nil, impl.Mark{}, -1, impl.ErrBad},
		{"others behind the text", far, impl.Mark{Off: 9, Grav: 1}, 9, impl.OK},
		{"others behind no text", far, impl.Mark{}, 0, impl.OK},
		{"MaxId", far, impl.Mark{Id: impl.MaxId, Off: 5}, 9, impl.OK},
		{"one more than MaxId", far, impl.Mark{Id: impl.MaxId + 1, Off: 5}, 9, impl.ErrValue},
		{"less MaxId", far, impl.Mark{Id: -impl.MaxId, Off: 5}, 9, impl.OK},
		{"one less than less MaxId", far, impl.Mark{Id: -impl.MaxId - 1, Off: 5}, 9, impl.ErrValue},
		{"gravity 2", far, impl.Mark{Off: 5, Grav: 2}, 9, impl.ErrValue},
		{"gravity below 0", far, impl.Mark{Off: 5, Grav: -1}, 9, impl.ErrValue},
		{"the id of the first", far, impl.Mark{Id: 1, Off: 5}, 9, impl.ErrTaken},
		{"the id of the last", far, impl.Mark{Id: 2, Off: 5, Grav: 1}, 9, impl.ErrTaken},
		{"the same mark again", far, far[0], 100, impl.ErrTaken},
		{"the last mark there may be", manyMarks(impl.MaxMarks - 1), impl.Mark{Id: 5, Off: 9}, 9, impl.OK},
		{"one mark too many", manyMarks(impl.MaxMarks), impl.Mark{Id: 5, Off: 9}, 9, impl.ErrFull},
	} {
		got, code := impl.MarkSet(c.table, c.m, c.length)
		if c.code == impl.OK {
			wantMarks(t, c.name, got, code, inOrder(append(slices.Clone(c.table), c.m)))
		} else {
			wantNoMarks(t, c.name, got, code, c.code)
		}
	}
}

// Promise 9: of several faults at once the one that chapter 6 names first is told. Each row has one fault fewer.
func TestMarkSetFaultsInOrder(t *testing.T) {
	full := manyMarks(impl.MaxMarks)
	taken := full[5].Id
	wrong := append(slices.Clone(full), impl.Mark{Id: 5, Off: impl.MaxText})
	for _, c := range []struct {
		name   string
		table  []impl.Mark
		m      impl.Mark
		length int
		code   int
	}{
		{"no table", wrong, impl.Mark{Id: taken, Off: -1, Grav: 2}, -1, impl.ErrBad},
		{"no length", full, impl.Mark{Id: taken, Off: -1, Grav: 2}, -1, impl.ErrBad},
		{"no gravity", full, impl.Mark{Id: taken, Off: -1, Grav: 2}, 9, impl.ErrValue},
		{"no id", full, impl.Mark{Id: impl.MaxId + 1, Off: -1}, 9, impl.ErrValue},
		{"taken", full, impl.Mark{Id: taken, Off: -1}, 9, impl.ErrTaken},
		{"outside", full, impl.Mark{Id: 5, Off: -1}, 9, impl.ErrRange},
		{"full", full, impl.Mark{Id: 5, Off: 9}, 9, impl.ErrFull},
	} {
		got, code := impl.MarkSet(c.table, c.m, c.length)
		wantNoMarks(t, c.name, got, code, c.code)
	}
	pushed := marked("1@8192R")
	for _, c := range []struct {
		name   string
		table  []impl.Mark
		off, n int
		code   int
	}{
		{"no table", wrong, -1, impl.MaxText + 1, impl.ErrBad},
		{"outside, and pushed too far", pushed, -1, 5, impl.ErrRange},
		{"too many, and pushed too far", pushed, 5, impl.MaxText + 1, impl.ErrRange},
		{"pushed too far", pushed, 5, 1, impl.ErrFull},
	} {
		got, code := impl.MarksInsert(c.table, c.off, c.n)
		wantNoMarks(t, c.name, got, code, c.code)
	}
	got, code := impl.MarksDelete(wrong, 5, 4)
	wantNoMarks(t, "no table and no range", got, code, impl.ErrBad)
}

// Promise 9: marks pushed to MaxText exactly and one behind it, from before them and at their place.
func TestMarksPushedToTheEnd(t *testing.T) {
	for _, c := range []struct {
		name   string
		table  []impl.Mark
		off, n int
		want   []impl.Mark
	}{
		{"to the end", marked("1@8000L"), 0, 192, marked("1@8192L")},
		{"one behind it", marked("1@8000L"), 0, 193, nil},
		{"one behind it, of two", marked("1@7999L 2@8000L"), 7999, 193, nil},
		{"from nothing to the end", marked("1@0R"), 0, 8192, marked("1@8192R")},
		{"from one to behind the end", marked("1@1R"), 0, 8192, nil},
		{"a right one at the end", marked("1@8192R"), 8192, 1, nil},
		{"a left one at the end", marked("1@8192L"), 8192, 8192, marked("1@8192L")},
		{"both at the end", marked("1@8192L 2@8192R"), 8192, 1, nil},
		{"both at the end, no runes", marked("1@8192L 2@8192R"), 0, 0, marked("1@8192L 2@8192R")},
		{"the last stays, the one before it goes", marked("1@8192R 2@8192L"), 8192, 1, nil},
		{"one to the end, the next behind it", marked("2@8190R 1@8191L"), 8190, 2, nil},
	} {
		got, code := impl.MarksInsert(c.table, c.off, c.n)
		if c.want == nil {
			wantNoMarks(t, c.name, got, code, impl.ErrFull)
		} else {
			wantMarks(t, c.name, got, code, c.want)
		}
	}
	got, code := impl.MarksInsert(nil, impl.MaxText, impl.MaxText)
	wantMarks(t, "no marks", got, code, nil)
}

// Promise 9: a table that isn't valid is told ahead of everything else.
func TestNoTable(t *testing.T) {
	for name, table := range wrongTables() {
		for _, x := range append([]int{0, 5, impl.MaxText}, extremes...) {
			got, code := impl.MarkSet(table, impl.Mark{Id: x, Off: x, Grav: x}, x)
			wantNoMarks(t, name+", setting", got, code, impl.ErrBad)
			got, code = impl.MarkSet(table, impl.Mark{Id: 50}, 9)
			wantNoMarks(t, name+", setting", got, code, impl.ErrBad)
			got, code = impl.MarksInsert(table, x, x)
			wantNoMarks(t, name+", inserting", got, code, impl.ErrBad)
			got, code = impl.MarksDelete(table, 0, x)
			wantNoMarks(t, name+", deleting", got, code, impl.ErrBad)
		}
		if b := impl.MarksExport(table); len(b) != 0 {
			t.Errorf("%s, exporting: %q", name, b)
		}
	}
}

// Promise 9: places and numbers outside, the least and the greatest integers among them.
func TestMarksOutside(t *testing.T) {
	for _, table := range [][]impl.Mark{nil, marked("1@5L"), around(), manyMarks(impl.MaxMarks)} {
		for _, x := range append([]int{impl.MaxText + 1}, extremes...) {
			for _, y := range append([]int{0, 5, impl.MaxText, x}, extremes...) {
				got, code := impl.MarksInsert(table, x, y)
				wantNoMarks(t, fmt.Sprintf("%d runes at %d", y, x), got, code, impl.ErrRange)
				got, code = impl.MarksInsert(table, y, x)
				wantNoMarks(t, fmt.Sprintf("%d runes at %d", x, y), got, code, impl.ErrRange)
				got, code = impl.MarksDelete(table, x, y)
				wantNoMarks(t, fmt.Sprintf("%d to %d", x, y), got, code, impl.ErrRange)
				got, code = impl.MarksDelete(table, y, x)
				wantNoMarks(t, fmt.Sprintf("%d to %d", y, x), got, code, impl.ErrRange)
			}
			got, code := impl.MarkSet(table, impl.Mark{Id: 3000, Off: 2}, x)
			wantNoMarks(t, fmt.Sprintf("a text of %d", x), got, code, impl.ErrBad)
		}
		got, code := impl.MarksDelete(table, 5, 4)
		wantNoMarks(t, "5 to 4", got, code, impl.ErrRange)
	}
	for _, x := range extremes {
		got, code := impl.MarkSet(nil, impl.Mark{Off: x}, impl.MaxText)
		wantNoMarks(t, fmt.Sprintf("offset %d", x), got, code, impl.ErrRange)
		got, code = impl.MarkSet(nil, impl.Mark{Grav: x}, impl.MaxText)
		wantNoMarks(t, fmt.Sprintf("gravity %d", x), got, code, impl.ErrValue)
		if x != -1 && x != -2 {
			got, code = impl.MarkSet(nil, impl.Mark{Id: x}, impl.MaxText)
			wantNoMarks(t, fmt.Sprintf("id %d", x), got, code, impl.ErrValue)
		}
	}
}

// Promise 9 with rule 4 of chapter 1: no table is changed, not even behind its end, and no answer shares memory with one.
func TestMarksShareNothing(t *testing.T) {
	for _, table := range [][]impl.Mark{nil, marked("1@5L"), around(), manyMarks(100)} {
		in, check := guardedMarks(t, table)
		for _, pair := range [][2]int{{0, 0}, {0, 1}, {1, 5}, {5, 5}, {7, 7}, {5, 9}, {impl.MaxText, impl.MaxText}, {-1, 2}, {3, 2}} {
			for _, got := range [][]impl.Mark{
				first(impl.MarksInsert(in, pair[0], pair[1])),
				first(impl.MarksDelete(in, pair[0], pair[1])),
				first(impl.MarkSet(in, impl.Mark{Id: 3000, Off: pair[0]}, pair[1])),
			} {
				check("behind a call")
				scribbleMarks(got)
				check("behind writing into an answer")
			}
		}
		overwrite(impl.MarksExport(in))
		check("behind exporting")
	}
}

// first leaves the code out.
func first[T any](v T, _ int) T { return v }
