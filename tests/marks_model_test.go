package tests

import (
	"cmp"
	"fmt"
	"slices"
	"strings"
	"testing"

	"loop.example/s01685/impl"
)

// marked reads marks, each as id@offset and the letter of its gravity.
func marked(words string) []impl.Mark {
	var marks []impl.Mark
	for word := range strings.FieldsSeq(words) {
		var m impl.Mark
		var letter rune
		if n, err := fmt.Sscanf(word, "%d@%d%c", &m.Id, &m.Off, &letter); n != 3 || err != nil {
			panic("the test's own marks can't be read: " + words)
		}
		if letter == 'R' {
			m.Grav = 1
		}
		marks = append(marks, m)
	}
	return marks
}

// modelMarksValid holds a table against chapter 6's rules, one by one.
func modelMarksValid(table []impl.Mark) bool {
	if len(table) > 128 {
		return false
	}
	ids := map[int]bool{}
	for k, m := range table {
		if ids[m.Id] || m.Id < -1000000000 || m.Id > 1000000000 || m.Off < 0 || m.Off > 8192 || m.Grav < 0 || m.Grav > 1 {
			return false
		}
		ids[m.Id] = true
		if k == 0 {
			continue
		}
		if last := table[k-1]; m.Off < last.Off || m.Off == last.Off && m.Id <= last.Id {
			return false
		}
	}
	return true
}

// inOrder puts marks in a table's order.
func inOrder(marks []impl.Mark) []impl.Mark {
	table := slices.Clone(marks)
	slices.SortFunc(table, func(a, b impl.Mark) int {
		if a.Off != b.Off {
			return cmp.Compare(a.Off, b.Off)
		}
		return cmp.Compare(a.Id, b.Id)
	})
	return table
}

// bead is a rune or a mark on a string.
type bead struct {
	mark *impl.Mark
}

// strung lays marks and runes out in a row: at each offset the marks of gravity 0, then those of gravity 1, then a rune.
// Runes that are put in come between the two.
func strung(table []impl.Mark, length int) []bead {
	marks := slices.Clone(table)
	slices.SortFunc(marks, func(a, b impl.Mark) int { return cmp.Compare(2*a.Off+a.Grav, 2*b.Off+b.Grav) })
	var row []bead
	runes := 0
	for _, m := range marks {
		row = append(row, make([]bead, m.Off-runes)...)
		row = append(row, bead{&m})
		runes = m.Off
	}
	return append(row, make([]bead, length-runes)...)
}

// unstrung reads the marks' offsets off a row.
func unstrung(row []bead) []impl.Mark {
	var marks []impl.Mark
	runes := 0
	for _, b := range row {
		if b.mark == nil {
			runes++
			continue
		}
		marks = append(marks, impl.Mark{Id: b.mark.Id, Off: runes, Grav: b.mark.Grav})
	}
	return inOrder(marks)
}

// reach is how long a text must be for all marks and for an offset to stand in it.
func reach(table []impl.Mark, off int) int {
	for _, m := range table {
		off = max(off, m.Off)
	}
	return off
}

func modelMarksInsert(table []impl.Mark, off, n int) []impl.Mark {
	row := strung(table, reach(table, off))
	at, runes := 0, 0
	for at < len(row) && (runes < off || row[at].mark != nil && row[at].mark.Grav == 0) {
		if row[at].mark == nil {
			runes++
		}
		at++
	}
	return unstrung(slices.Insert(row, at, make([]bead, n)...))
}

func modelMarksDelete(table []impl.Mark, lo, hi int) []impl.Mark {
	runes := -1
	return unstrung(slices.DeleteFunc(strung(table, reach(table, hi)), func(b bead) bool {
		if b.mark != nil {
			return false
		}
		runes++
		return lo <= runes && runes < hi
	}))
}

// wantMarks asks for code 0 and for this table, and that it be valid.
func wantMarks(t *testing.T, what string, got []impl.Mark, code int, want []impl.Mark) {
	t.Helper()
	if code != impl.OK || !slices.Equal(got, want) {
		t.Errorf("%s: %v, code %d, want %v", what, short(got), code, short(want))
		return
	}
	if !modelMarksValid(got) {
		t.Errorf("%s: %v is not valid", what, got)
	}
}

// wantNoMarks asks for a code and nothing else.
func wantNoMarks(t *testing.T, what string, got []impl.Mark, code, want int) {
	t.Helper()
	if code != want || len(got) != 0 {
		t.Errorf("%s: %v, code %d, want nothing and %d", what, short(got), code, want)
	}
}

// guardedMarks is a table with room behind its end, and a check that neither has been written to.
func guardedMarks(t *testing.T, table []impl.Mark) ([]impl.Mark, func(what string)) {
	part, whole := spare(table, impl.Mark{Id: 77, Off: 77, Grav: 77})
	before := slices.Clone(whole)
	return part, func(what string) {
		t.Helper()
		wantSame(t, what, whole, before)
	}
}

// scribbleMarks writes over marks and over the room behind their end.
func scribbleMarks(marks []impl.Mark) {
	marks = marks[:cap(marks)]
	for k := range marks {
		marks[k] = impl.Mark{Id: -77, Off: -77, Grav: -77}
	}
}

// fewMarks are all tables of up to three marks at offsets below five, of both gravities, with ids in every order.
func fewMarks() [][]impl.Mark {
	tables := [][]impl.Mark{nil}
	from := 0
	for _, id := range []int{4, -9, 0} {
		end := len(tables)
		for _, table := range tables[from:end] {
			for off := range 5 {
				for grav := range 2 {
					tables = append(tables, inOrder(append(slices.Clone(table), impl.Mark{Id: id, Off: off, Grav: grav})))
				}
			}
		}
		from = end
	}
	return tables
}

// manyMarks is a table of n marks with many at one place, the least and the greatest id and the last offset among them.
func manyMarks(n int) []impl.Mark {
	special := []impl.Mark{{Id: impl.MaxId, Off: 0}, {Id: -impl.MaxId, Off: impl.MaxText, Grav: 1}, {Id: 0, Off: impl.MaxText}}
	var table []impl.Mark
	for k := range n {
		if k < len(special) {
			table = append(table, special[k])
		} else {
			table = append(table, impl.Mark{Id: (k*37 - 2000) * 11, Off: k / 5 * 100, Grav: k % 2})
		}
	}
	return inOrder(table)
}

// The tests lean on these tables, so they are held against the rules themselves.
func TestTablesAreValid(t *testing.T) {
	tables := fewMarks()
	if len(tables) != 1+10+100+1000 {
		t.Errorf("%d tables of few marks", len(tables))
	}
	for n := range impl.MaxMarks + 1 {
		tables = append(tables, manyMarks(n))
	}
	for _, table := range tables {
		if !modelMarksValid(table) {
			t.Errorf("%v isn't valid", table)
		}
	}
	for name, table := range wrongTables() {
		if modelMarksValid(table) {
			t.Errorf("%s: %v is valid", name, table)
		}
	}
}

// wrongTables are tables that are not valid, by each of the rules.
func wrongTables() map[string][]impl.Mark {
	wrong := map[string][]impl.Mark{
		"one mark too many":              append(manyMarks(impl.MaxMarks), impl.Mark{Id: 5, Off: impl.MaxText}),
		"offsets fall":                   {{Id: 1, Off: 5}, {Id: 2, Off: 4}},
		"offsets fall at the end":        {{Id: 1, Off: 3}, {Id: 2, Off: 5}, {Id: 3, Off: 4}},
		"ids fall at one place":          {{Id: 2, Off: 5}, {Id: 1, Off: 5}},
		"ids fall over gravities":        {{Id: 2, Off: 5, Grav: 0}, {Id: 1, Off: 5, Grav: 1}},
		"ids fall below zero":            {{Id: 0, Off: 5}, {Id: -1, Off: 5}},
		"a mark twice":                   {{Id: 1, Off: 5}, {Id: 1, Off: 5}},
		"an id twice at one place":       {{Id: 1, Off: 5, Grav: 0}, {Id: 1, Off: 5, Grav: 1}},
		"an id twice":                    {{Id: 1, Off: 5}, {Id: 1, Off: 6}},
		"an id twice with one between":   {{Id: 1, Off: 5}, {Id: 2, Off: 6}, {Id: 1, Off: 7}},
		"an id twice, far apart":         {{Id: 1, Off: 0}, {Id: 2, Off: 0}, {Id: 3, Off: 0}, {Id: 4, Off: 9}, {Id: 1, Off: impl.MaxText}},
		"an id one too great":            {{Id: impl.MaxId + 1, Off: 5}},
		"an id one too small":            {{Id: -impl.MaxId - 1, Off: 5}},
		"an offset below 0":              {{Id: 1, Off: -1}},
		"an offset behind MaxText":       {{Id: 1, Off: impl.MaxText + 1}},
		"the second offset behind":       {{Id: 1, Off: impl.MaxText}, {Id: 2, Off: impl.MaxText + 1}},
		"gravity 2":                      {{Id: 1, Off: 5, Grav: 2}},
		"gravity below 0":                {{Id: 1, Off: 5, Grav: -1}},
		"many marks, the last one wrong": append(manyMarks(100), impl.Mark{Id: 5, Off: impl.MaxText, Grav: 3}),
		"very many marks":                slices.Repeat([]impl.Mark{{Id: 1}}, 100000),
	}
	for _, x := range extremes {
		if x != -1 && x != -2 {
			wrong[fmt.Sprintf("the id is %d", x)] = []impl.Mark{{Id: x, Off: 5}}
		}
		wrong[fmt.Sprintf("the offset is %d", x)] = []impl.Mark{{Id: 1, Off: x}}
		wrong[fmt.Sprintf("the gravity is %d", x)] = []impl.Mark{{Id: 1, Off: 5, Grav: x}}
	}
	return wrong
}
