package tests

import (
	"fmt"
	"regexp"
	"slices"
	"strconv"
	"strings"
	"testing"

	"loop.example/s01685/impl"
)

// modelExport writes a table that is valid.
func modelExport(table []impl.Mark) string {
	text := ""
	for _, m := range table {
		text += fmt.Sprintf("%d %d %c\n", m.Id, m.Off, "LR"[m.Grav])
	}
	return text
}

var modelNumber = regexp.MustCompile(`^(0|-?[1-9][0-9]{0,9})$`)

// modelImport follows chapter 6 word by word.
func modelImport(text string) (table []impl.Mark, code, line int) {
	if len(text) > 8192 {
		return nil, impl.ErrLarge, 0
	}
	for line = 1; text != ""; line++ {
		end := strings.Index(text, "\n")
		if end < 0 || strings.Count(text[:end], " ") != 2 {
			return nil, impl.ErrArgs, line
		}
		fields := strings.Split(text[:end], " ")
		text = text[end+1:]
		if !modelNumber.MatchString(fields[0]) || !modelNumber.MatchString(fields[1]) {
			return nil, impl.ErrNumber, line
		}
		id, _ := strconv.Atoi(fields[0])
		off, _ := strconv.Atoi(fields[1])
		if id < -1000000000 || id > 1000000000 || off < 0 || off > 8192 || fields[2] != "L" && fields[2] != "R" {
			return nil, impl.ErrValue, line
		}
		if slices.ContainsFunc(table, func(m impl.Mark) bool { return m.Id == id }) {
			return nil, impl.ErrTaken, line
		}
		if k := len(table) - 1; k >= 0 && (table[k].Off > off || table[k].Off == off && table[k].Id > id) {
			return nil, impl.ErrRange, line
		}
		if len(table) == 128 {
			return nil, impl.ErrFull, line
		}
		table = append(table, impl.Mark{Id: id, Off: off, Grav: strings.Index("LR", fields[2])})
	}
	return table, impl.OK, 0
}

// wantImported holds the reading of bytes against the model, and what is accepted against what is written.
func wantImported(t *testing.T, text string) {
	t.Helper()
	want, wantCode, wantLine := modelImport(text)
	got, code, line := impl.MarksImport([]byte(text))
	if !slices.Equal(got, want) || code != wantCode || line != wantLine {
		t.Errorf("%q: %v, code %d, line %d, want %v, %d, %d", text[:min(len(text), 200)], short(got), code, line, short(want), wantCode, wantLine)
	}
	if b := impl.MarksExport(got); code == impl.OK && string(b) != text {
		t.Errorf("%q is accepted, but written as %q", text, b)
	}
}

// Promise 10: tables of no, one and many marks are written and read back.
func TestExportAndImport(t *testing.T) {
	for _, c := range []struct{ table, text string }{
		{"", ""},
		{"0@0L", "0 0 L\n"},
		{"-3@2L 7@2R", "-3 2 L\n7 2 R\n"},
		{"1000000000@0R 0@10L -1000000000@8192R", "1000000000 0 R\n0 10 L\n-1000000000 8192 R\n"},
		{"-10@100L -9@100R 9@100R 10@100L", "-10 100 L\n-9 100 R\n9 100 R\n10 100 L\n"},
	} {
		if b := impl.MarksExport(marked(c.table)); string(b) != c.text {
			t.Errorf("%s is written as %q", c.table, b)
		}
		wantImported(t, c.text)
	}
	tables := fewMarks()
	for n := range impl.MaxMarks + 1 {
		tables = append(tables, manyMarks(n))
	}
	for _, table := range tables {
		b := impl.MarksExport(table)
		if string(b) != modelExport(table) {
			t.Errorf("%v is written as %q", short(table), b)
		}
		got, code, line := impl.MarksImport(b)
		wantMarks(t, "written and read", got, code, table)
		if line != 0 {
			t.Errorf("written and read: line %d", line)
		}
	}
}

// Promise 10: each fault of a line, by hand.
func TestImportFaults(t *testing.T) {
	for _, c := range []struct {
		text       string
		code, line int
	}{
		{"1 2 L", impl.ErrArgs, 1},
		{"1 2 L\n3 4 R", impl.ErrArgs, 2},
		{"\n", impl.ErrArgs, 1},
		{"1 2 L\n\n", impl.ErrArgs, 2},
		{"\n1 2 L\n", impl.ErrArgs, 1},
		{" ", impl.ErrArgs, 1},
		{"x", impl.ErrArgs, 1},
		{"1 2\n", impl.ErrArgs, 1},
		{"12L\n", impl.ErrArgs, 1},
		{"1 2 L \n", impl.ErrArgs, 1},
		{" 1 2 L\n", impl.ErrArgs, 1},
		{"1  2 L\n", impl.ErrArgs, 1},
		{"1 2 3 L\n", impl.ErrArgs, 1},
		{"1\t2\tL\n", impl.ErrArgs, 1},
		{"1 2 L\r\n", impl.ErrValue, 1},
		{" 2 L\n", impl.ErrNumber, 1},
		{"1  L\n", impl.ErrNumber, 1},
		{"  \n", impl.ErrNumber, 1},
		{"1 2 \n", impl.ErrValue, 1},
		{"-0 2 L\n", impl.ErrNumber, 1},
		{"1 -0 L\n", impl.ErrNumber, 1},
		{"01 2 L\n", impl.ErrNumber, 1},
		{"1 02 L\n", impl.ErrNumber, 1},
		{"00 2 L\n", impl.ErrNumber, 1},
		{"-01 2 L\n", impl.ErrNumber, 1},
		{"+1 2 L\n", impl.ErrNumber, 1},
		{"1 +2 L\n", impl.ErrNumber, 1},
		{"- 2 L\n", impl.ErrNumber, 1},
		{"1 - L\n", impl.ErrNumber, 1},
		{"--1 2 L\n", impl.ErrNumber, 1},
		{"1- 2 L\n", impl.ErrNumber, 1},
		{"1_0 2 L\n", impl.ErrNumber, 1},
		{"0x1 2 L\n", impl.ErrNumber, 1},
		{"1.0 2 L\n", impl.ErrNumber, 1},
		{"1e2 2 L\n", impl.ErrNumber, 1},
		{"a 2 L\n", impl.ErrNumber, 1},
		{"\xd9\xa1 2 L\n", impl.ErrNumber, 1},
		{"1 2\x00 L\n", impl.ErrNumber, 1},
		{"9999999999 2 L\n", impl.ErrValue, 1},
		{"-9999999999 2 L\n", impl.ErrValue, 1},
		{"10000000000 2 L\n", impl.ErrNumber, 1},
		{"-10000000000 2 L\n", impl.ErrNumber, 1},
		{"1 9999999999 L\n", impl.ErrValue, 1},
		{"1 10000000000 L\n", impl.ErrNumber, 1},
		{"99999999999999999999999 2 L\n", impl.ErrNumber, 1},
		{"1 " + strings.Repeat("9", 5000) + " L\n", impl.ErrNumber, 1},
		{"1000000001 2 L\n", impl.ErrValue, 1},
		{"-1000000001 2 L\n", impl.ErrValue, 1},
		{"1 8193 L\n", impl.ErrValue, 1},
		{"1 -1 L\n", impl.ErrValue, 1},
		{"1 2 l\n", impl.ErrValue, 1},
		{"1 2 LL\n", impl.ErrValue, 1},
		{"1 2 LR\n", impl.ErrValue, 1},
		{"1 2 X\n", impl.ErrValue, 1},
		{"1 2 0\n", impl.ErrValue, 1},
		{"1 2 L\n1 3 R\n", impl.ErrTaken, 2},
		{"1 2 L\n2 2 L\n3 2 R\n1 9 L\n", impl.ErrTaken, 4},
		{"1 5 L\n2 4 L\n", impl.ErrRange, 2},
		{"2 5 L\n1 5 L\n", impl.ErrRange, 2},
		{"0 5 L\n-1 5 L\n", impl.ErrRange, 2},
		{"1 5 L\n2 6 L\n3 5 L\n", impl.ErrRange, 3},
		// Two faults in one line: the earlier rule counts.
		{"01 2", impl.ErrArgs, 1},
		{"01 2 L", impl.ErrArgs, 1},
		{"01 2 X Y\n", impl.ErrArgs, 1},
		{"1 02 X\n", impl.ErrNumber, 1},
		{"1000000001 02 L\n", impl.ErrNumber, 1},
		{"01 8193 L\n", impl.ErrNumber, 1},
		{"5 5 L\n5 8193 L\n", impl.ErrValue, 2},
		{"5 5 L\n5 6 X\n", impl.ErrValue, 2},
		{"5 5 L\n4 4 X\n", impl.ErrValue, 2},
		{"5 5 L\n5 4 L\n", impl.ErrTaken, 2},
		{"5 5 L\n5 5 L\n", impl.ErrTaken, 2},
		// Two faults in different lines: the earlier line counts.
		{"1 2 X\n1 2\n", impl.ErrValue, 1},
		{"5 5 L\n4 4 L\n05 9 L\n", impl.ErrRange, 2},
		{"5 5 L\n5 9 L\nx", impl.ErrTaken, 2},
		{"01 5 L\n\n", impl.ErrNumber, 1},
	} {
		got, code, line := impl.MarksImport([]byte(c.text))
		if len(got) != 0 || code != c.code || line != c.line {
			t.Errorf("%.60q: %v, code %d, line %d, want %d and %d", c.text, got, code, line, c.code, c.line)
		}
		wantImported(t, c.text)
	}
}

// Promise 10: MaxMarks lines and one more, which is looked at by the other rules first.
func TestImportMaxMarks(t *testing.T) {
	var lines []string
	for k := range impl.MaxMarks {
		lines = append(lines, fmt.Sprintf("%d %d R\n", k, k/3))
	}
	full := strings.Join(lines, "")
	if got, code, line := impl.MarksImport([]byte(full)); len(got) != impl.MaxMarks || code != impl.OK || line != 0 {
		t.Errorf("MaxMarks lines: %d marks, code %d, line %d", len(got), code, line)
	}
	wantImported(t, full)
	for _, c := range []struct {
		last string
		code int
	}{
		{"500 50 L\n", impl.ErrFull},
		{"500 8192 L\n501 8192 L\n", impl.ErrFull},
		{"500 50 L", impl.ErrArgs},
		{"0500 50 L\n", impl.ErrNumber},
		{"500 50 M\n", impl.ErrValue},
		{"5 50 L\n", impl.ErrTaken},
		{"500 41 L\n", impl.ErrRange},
		{"-1 42 L\n", impl.ErrRange},
	} {
		got, code, line := impl.MarksImport([]byte(full + c.last))
		if len(got) != 0 || code != c.code || line != impl.MaxMarks+1 {
			t.Errorf("%q behind MaxMarks lines: %v, code %d, line %d, want %d", c.last, got, code, line, c.code)
		}
		wantImported(t, full+c.last)
	}
}

// Promise 10: MaxImport bytes are read, one more is not.
func TestImportMaxBytes(t *testing.T) {
	var many strings.Builder
	for k := 0; many.Len() < impl.MaxImport-20; k++ {
		fmt.Fprintf(&many, "%d %d L\n", k, k)
	}
	for name, c := range map[string]struct {
		text       string
		code, line int
	}{
		"no newline":             {strings.Repeat("1", impl.MaxImport), impl.ErrArgs, 1},
		"newlines only":          {strings.Repeat("\n", impl.MaxImport), impl.ErrArgs, 1},
		"a long number":          {"1 " + strings.Repeat("9", impl.MaxImport-5) + " L\n", impl.ErrNumber, 1},
		"a long word":            {"1 1 " + strings.Repeat("L", impl.MaxImport-5) + "\n", impl.ErrValue, 1},
		"one mark":               {"1 1 L\n" + strings.Repeat("x", impl.MaxImport-6), impl.ErrArgs, 2},
		"more than MaxMarks":     {many.String() + strings.Repeat("z", impl.MaxImport-many.Len()), impl.ErrFull, 129},
		"the last line is wrong": {strings.Repeat("x", impl.MaxImport-1) + "\n", impl.ErrArgs, 1},
	} {
		if len(c.text) != impl.MaxImport {
			t.Fatalf("%s: the test's own text has %d bytes", name, len(c.text))
		}
		got, code, line := impl.MarksImport([]byte(c.text))
		if len(got) != 0 || code != c.code || line != c.line {
			t.Errorf("%s: %d marks, code %d, line %d, want %d and %d", name, len(got), code, line, c.code, c.line)
		}
		for _, more := range []string{"\n", "1", " ", strings.Repeat("x\n", 50000)} {
			got, code, line = impl.MarksImport([]byte(c.text + more))
			if len(got) != 0 || code != impl.ErrLarge || line != 0 {
				t.Errorf("%s and %d bytes: %d marks, code %d, line %d", name, len(more), len(got), code, line)
			}
		}
	}
}

// Promise 10: exports with a byte changed, taken out or put in are refused, or are written back as they are.
func TestImportChangedBytes(t *testing.T) {
	for _, table := range []string{"1@2L", "-3@2L 7@2R", "0@0R 10@9L -5@10R", "1000000000@8192L", "-1000000000@0R -10@0L 9@8191R 4@8192R"} {
		text := modelExport(marked(table))
		for at := range len(text) {
			wantImported(t, text[:at])
			wantImported(t, text[at:])
			wantImported(t, text[:at]+text[at+1:])
			wantImported(t, text[:at]+text)
			for b := range 256 {
				wantImported(t, text[:at]+string([]byte{byte(b)})+text[at+1:])
				wantImported(t, text[:at]+string([]byte{byte(b)})+text[at:])
			}
		}
	}
}

// Promise 10: all short texts of the bytes that tables are made of, by themselves and behind a mark.
func TestImportShortTexts(t *testing.T) {
	const letters = "019- LR\n"
	var grow func(text string)
	grow = func(text string) {
		wantImported(t, text)
		wantImported(t, "1 1 L\n"+text)
		if len(text) == 5 {
			wantImported(t, text+"\n")
			wantImported(t, "1 1 L\n"+text+"\n")
			return
		}
		for _, c := range letters {
			grow(text + string(c))
		}
	}
	grow("")
}

// Promise 10 with rule 4 of chapter 1: the bytes are not changed, and what is read doesn't hang on them.
func TestImportSharesNothing(t *testing.T) {
	text := "-3 2 L\n7 2 R\n"
	for _, faulty := range []string{"", "8 9", "7 3 L\n"} {
		part, whole := spare([]byte(text+faulty), 'x')
		before := slices.Clone(whole)
		got, code, _ := impl.MarksImport(part)
		wantSame(t, "bytes behind reading", whole, before)
		overwrite(whole)
		if code == impl.OK {
			wantMarks(t, "marks behind writing into the bytes", got, code, marked("-3@2L 7@2R"))
		}
	}
}
