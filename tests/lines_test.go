package tests

import (
	"fmt"
	"slices"
	"testing"

	"loop.example/s01685/impl"
)

// Promise 6: loaded texts with no break, with breaks at both ends and one behind another, by hand.
func TestLineLoadByHand(t *testing.T) {
	for _, c := range []struct {
		text string
		rows []string
	}{
		{"", []string{""}},
		{"abc", []string{"abc"}},
		{"\n", []string{"", ""}},
		{"a\nb", []string{"a", "b"}},
		{"\nab", []string{"", "ab"}},
		{"ab\n", []string{"ab", ""}},
		{"\nab\n", []string{"", "ab", ""}},
		{"a\n\n\nb", []string{"a", "", "", "b"}},
		{"\n\n\n", []string{"", "", "", ""}},
	} {
		want := impl.LineBuf{Starts: []int{0}}
		for _, row := range c.rows {
			want.Rows = append(want.Rows, cells(row, 0, ""))
		}
		got, code := impl.LineLoad(letters(c.text))
		wantLines(t, fmt.Sprintf("loading %q", c.text), got, code, want)
	}
}

// Promise 6: texts of all forms, up to MaxText and one more.
func TestLineLoad(t *testing.T) {
	list := append(texts(), countingStore(impl.MaxText-1), countingStore(impl.MaxText),
		slices.Repeat([]int32{10}, impl.MaxText), make([]int32, impl.MaxText))
	for k, text := range list {
		got, code := impl.LineLoad(text)
		wantLines(t, fmt.Sprintf("loading text %d", k), got, code, modelLineLoad(text))
		wantSame(t, fmt.Sprintf("text %d", k), linedText(got), text)
	}
	for _, length := range []int{impl.MaxText + 1, impl.MaxStore} {
		for _, r := range []int32{0, 10} {
			got, code := impl.LineLoad(slices.Repeat([]int32{r}, length))
			wantNoLines(t, fmt.Sprintf("loading %d runes", length), got, code, impl.ErrFull)
		}
	}
}

// Promise 6: which row keeps its cells when a text is put in, its gap, and how many starts are known then, by hand.
func TestLineInsertByHand(t *testing.T) {
	two := modelLineLoad(letters("ab\ncd"))
	three := lineBuf([]int{0, 4, 8}, cells("abc", 0, ""), cells("de", 5, "f"), cells("", 2, "gh"))
	for _, c := range []struct {
		name string
		in   impl.LineBuf
		off  int
		put  string
		want impl.LineBuf
	}{
		{"no break, a row's start", two, 0, "x", lineBuf([]int{0}, cells("x", 13, "ab"), cells("cd", 0, ""))},
		{"no break, inside a row", two, 1, "x", lineBuf([]int{0}, cells("ax", 13, "b"), cells("cd", 0, ""))},
		{"no break, a row's end", two, 2, "x", lineBuf([]int{0}, cells("abx", 13, ""), cells("cd", 0, ""))},
		{"no break, the next row's start", two, 3, "x", lineBuf([]int{0, 3}, cells("ab", 0, ""), cells("x", 13, "cd"))},
		{"no break, the text's end", two, 5, "x", lineBuf([]int{0, 3}, cells("ab", 0, ""), cells("cdx", 13, ""))},
		{"no break, into a gap", three, 5, "xyz", lineBuf([]int{0, 4}, cells("abc", 0, ""), cells("dxyz", 2, "ef"), cells("", 2, "gh"))},
		{"no break, the last row, all are known", three, 9, "x",
			lineBuf([]int{0, 4, 8}, cells("abc", 0, ""), cells("de", 5, "f"), cells("gx", 1, "h"))},
		{"no break, the first row, the others are forgotten", three, 0, "x",
			lineBuf([]int{0}, cells("x", 12, "abc"), cells("de", 5, "f"), cells("", 2, "gh"))},
		{"a break, a row's start", two, 0, "\n", lineBuf([]int{0}, cells("", 2, ""), cells("ab", 0, ""), cells("cd", 0, ""))},
		{"a break, inside a row", two, 1, "\n", lineBuf([]int{0}, cells("a", 1, ""), cells("b", 0, ""), cells("cd", 0, ""))},
		{"a break, a row's end", two, 2, "\n", lineBuf([]int{0}, cells("ab", 0, ""), cells("", 0, ""), cells("cd", 0, ""))},
		{"a break, the text's end", two, 5, "\n", lineBuf([]int{0, 3}, cells("ab", 0, ""), cells("cd", 0, ""), cells("", 0, ""))},
		{"runes before the break, as many as went", two, 1, "x\n", lineBuf([]int{0}, cells("ax", 0, ""), cells("b", 0, ""), cells("cd", 0, ""))},
		{"runes before the break, more than went", two, 1, "xyz\n",
			lineBuf([]int{0}, cells("axyz", 12, ""), cells("b", 0, ""), cells("cd", 0, ""))},
		{"runes behind the break", two, 1, "\nxy", lineBuf([]int{0}, cells("a", 1, ""), cells("xyb", 0, ""), cells("cd", 0, ""))},
		{"several breaks, inside a row", two, 4, "x\ny\n\nz",
			lineBuf([]int{0, 3}, cells("ab", 0, ""), cells("cx", 0, ""), cells("y", 0, ""), cells("", 0, ""), cells("zd", 0, ""))},
		{"several breaks alone, a row's start", two, 3, "\n\n",
			lineBuf([]int{0, 3}, cells("ab", 0, ""), cells("", 2, ""), cells("", 0, ""), cells("cd", 0, ""))},
		{"a row with a gap keeps its cells, the new one has none", three, 5, "x\ny",
			lineBuf([]int{0, 4}, cells("abc", 0, ""), cells("dx", 6, ""), cells("yef", 0, ""), cells("", 2, "gh"))},
		{"an empty text", two, 3, "", two},
		{"an empty text, starts stay", three, 0, "", three},
	} {
		got, code := impl.LineInsert(c.in, c.off, letters(c.put))
		wantLines(t, c.name, got, code, c.want)
	}
}

// Promise 6: deletions inside a row and over rows, their gaps and starts, by hand.
func TestLineDeleteByHand(t *testing.T) {
	two := modelLineLoad(letters("ab\ncd"))
	four := lineBuf([]int{0, 5}, cells("abcd", 0, ""), cells("e", 4, "f"), cells("", 0, ""), cells("gh", 9, "i"))
	for _, c := range []struct {
		name   string
		in     impl.LineBuf
		lo, hi int
		want   impl.LineBuf
	}{
		{"inside a row", four, 1, 3, lineBuf([]int{0}, cells("a", 2, "d"), cells("e", 4, "f"), cells("", 0, ""), cells("gh", 9, "i"))},
		{"the whole of a row", four, 5, 7, lineBuf([]int{0, 5}, cells("abcd", 0, ""), cells("", 6, ""), cells("", 0, ""), cells("gh", 9, "i"))},
		{"inside the last row", four, 10, 11,
			lineBuf([]int{0, 5, 8, 9}, cells("abcd", 0, ""), cells("e", 4, "f"), cells("", 0, ""), cells("g", 10, "i"))},
		{"a break, the tail is more than the gap", two, 2, 3, lineBuf([]int{0}, cells("abcd", 12, ""))},
		{"over a break, the tail fits in the cells that went", two, 1, 4, lineBuf([]int{0}, cells("ad", 0, ""))},
		{"an empty tail", two, 1, 5, lineBuf([]int{0}, cells("a", 1, ""))},
		{"an empty tail, the gap moves to the row's end", lineBuf([]int{0}, cells("", 3, "ab"), cells("c", 0, "")), 2, 4,
			lineBuf([]int{0}, cells("ab", 3, ""))},
		{"a break before an empty row", four, 7, 8, lineBuf([]int{0, 5}, cells("abcd", 0, ""), cells("ef", 4, ""), cells("gh", 9, "i"))},
		{"an empty row with its break", four, 8, 9, lineBuf([]int{0, 5, 8}, cells("abcd", 0, ""), cells("e", 4, "f"), cells("ghi", 13, ""))},
		{"over all rows", four, 2, 11, lineBuf([]int{0}, cells("abi", 1, ""))},
		{"over some rows, the first one keeps its cells", four, 6, 10,
			lineBuf([]int{0, 5}, cells("abcd", 0, ""), cells("ehi", 3, ""))},
		{"all", two, 0, 5, lineBuf([]int{0}, cells("", 2, ""))},
		{"nothing", four, 8, 8, four},
		{"nothing at the end", two, 5, 5, two},
	} {
		got, code := impl.LineDelete(c.in, c.lo, c.hi)
		wantLines(t, c.name, got, code, c.want)
	}
}

// Promise 6: how far the index is known behind each question, by hand.
func TestLineStartsByHand(t *testing.T) {
	rows := modelLineLoad(letters("a\n\nbc\nd")).Rows
	for _, c := range []struct {
		known, off int
		want       []int
		line, col  int
	}{
		{1, 0, []int{0, 2}, 0, 0},
		{1, 1, []int{0, 2}, 0, 1},
		{1, 2, []int{0, 2, 3}, 1, 0},
		{1, 3, []int{0, 2, 3, 6}, 2, 0},
		{1, 5, []int{0, 2, 3, 6}, 2, 2},
		{1, 6, []int{0, 2, 3, 6}, 3, 0},
		{1, 7, []int{0, 2, 3, 6}, 3, 1},
		{2, 0, []int{0, 2}, 0, 0},
		{2, 2, []int{0, 2, 3}, 1, 0},
		{3, 1, []int{0, 2, 3}, 0, 1},
		{3, 2, []int{0, 2, 3}, 1, 0},
		{4, 0, []int{0, 2, 3, 6}, 0, 0},
		{4, 7, []int{0, 2, 3, 6}, 3, 1},
	} {
		in := lineBuf([]int{0, 2, 3, 6}[:c.known], rows...)
		got, line, col, code := impl.LineLineCol(in, c.off)
		what := fmt.Sprintf("%d known, place of %d", c.known, c.off)
		wantLines(t, what, got, code, lineBuf(c.want, rows...))
		if line != c.line || col != c.col {
			t.Errorf("%s: %d, %d, want %d, %d", what, line, col, c.line, c.col)
		}
	}
	for _, c := range []struct {
		known, line, col int
		want             []int
		off              int
	}{
		{1, 0, 0, []int{0}, 0},
		{1, 0, 1, []int{0}, 1},
		{1, 1, 0, []int{0, 2}, 2},
		{1, 2, 2, []int{0, 2, 3}, 5},
		{1, 3, 1, []int{0, 2, 3, 6}, 7},
		{2, 0, 0, []int{0, 2}, 0},
		{3, 1, 0, []int{0, 2, 3}, 2},
		{4, 0, 1, []int{0, 2, 3, 6}, 1},
	} {
		in := lineBuf([]int{0, 2, 3, 6}[:c.known], rows...)
		got, off, code := impl.LineOffset(in, c.line, c.col)
		what := fmt.Sprintf("%d known, offset of %d, %d", c.known, c.line, c.col)
		wantLines(t, what, got, code, lineBuf(c.want, rows...))
		if off != c.off {
			t.Errorf("%s: %d, want %d", what, off, c.off)
		}
	}
}

// Promise 6: all texts at every place of all forms; the text is the list of runes with the edit made.
func TestLineInsertEverywhere(t *testing.T) {
	for k, b := range lineForms() {
		text := linedText(b)
		for off := range len(text) + 1 {
			for _, put := range puts() {
				what := fmt.Sprintf("form %d, %v at %d of %s", k, put, off, spellLines(b))
				got, code := impl.LineInsert(b, off, put)
				wantLines(t, what, got, code, modelLineInsert(b, off, put))
				wantSame(t, what+": text", linedText(got), slices.Insert(slices.Clone(text), off, put...))
			}
		}
	}
}

// Promise 6: every range of all forms; ranges outside are refused.
func TestLineDeleteEverywhere(t *testing.T) {
	for k, b := range lineForms() {
		text := linedText(b)
		for lo := -1; lo <= len(text)+1; lo++ {
			for hi := -1; hi <= len(text)+1; hi++ {
				what := fmt.Sprintf("form %d, %d to %d", k, lo, hi)
				got, code := impl.LineDelete(b, lo, hi)
				if lo < 0 || hi < lo || len(text) < hi {
					wantNoLines(t, what, got, code, impl.ErrRange)
					continue
				}
				wantLines(t, what, got, code, modelLineDelete(b, lo, hi))
				wantSame(t, what+": text", linedText(got), slices.Delete(slices.Clone(text), lo, hi))
			}
		}
	}
}

// Promise 6: many edits and questions, one behind the other, from nothing and from a loaded text.
func TestLineManyEdits(t *testing.T) {
	for seed := range 6 {
		d := dice(seed)
		b := modelLineLoad(countingStore(100 * seed))
		text := linedText(b)
		for step := range 250 {
			at := d.roll(len(text) + 1)
			want := copyLines(b)
			var got impl.LineBuf
			var code int
			switch d.roll(4) {
			case 0, 1:
				put := puts()[d.roll(8)]
				want = modelLineInsert(b, at, put)
				got, code = impl.LineInsert(b, at, put)
				text = slices.Insert(text, at, put...)
			case 2:
				hi := min(len(text), at+d.roll(25))
				want = modelLineDelete(b, at, hi)
				got, code = impl.LineDelete(b, at, hi)
				text = slices.Delete(text, at, hi)
			default:
				modelFind(&want, at)
				got, _, _, code = impl.LineLineCol(b, at)
			}
			what := fmt.Sprintf("seed %d, step %d", seed, step)
			wantLines(t, what, got, code, want)
			wantSame(t, what+": text", linedText(got), text)
			b = got
		}
	}
}
