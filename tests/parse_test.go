package tests

import (
	"fmt"
	"slices"
	"strings"
	"testing"

	"loop.example/s01685/impl"
)

// Promise 16, by hand: what each word gives.
func TestParseWords(t *testing.T) {
	for _, c := range []struct {
		line string
		want impl.Op
	}{
		{"ins 7 610a", impl.Op{Kind: 1, A: 7, Text: []byte("a\n")}},
		{"ins -7 -", impl.Op{Kind: 1, A: -7}},
		{"del 1 2", impl.Op{Kind: 2, A: 1, B: 2}},
		{"get -1 2", impl.Op{Kind: 3, A: -1, B: 2}},
		{"where 5", impl.Op{Kind: 4, A: 5}},
		{"at 3 4", impl.Op{Kind: 5, A: 3, B: 4}},
		{"mark 3 4 5", impl.Op{Kind: 6, A: 3, B: 4, C: 5}},
		{"drop 6", impl.Op{Kind: 7, A: 6}},
		{"look 7", impl.Op{Kind: 8, A: 7}},
		{"undo", impl.Op{Kind: 9}},
		{"redo", impl.Op{Kind: 10}},
		{"begin", impl.Op{Kind: 11}},
		{"end", impl.Op{Kind: 12}},
		{"snap 1", impl.Op{Kind: 13, A: 1}},
		{"back 2", impl.Op{Kind: 14, A: 2}},
		{"move 3", impl.Op{Kind: 15, A: 3}},
		{"dump", impl.Op{Kind: 16}},
		{"op 0", impl.Op{}},
		{"op 1", impl.Op{Kind: 1}},
		{"op 9", impl.Op{Kind: 9}},
		{"op 16", impl.Op{Kind: 16}},
		{"op 17", impl.Op{Kind: 17}},
		{"op -1", impl.Op{Kind: -1}},
		{"op -999999999999999999", impl.Op{Kind: -999999999999999999}},
	} {
		wantRead(t, c.line, c.want)
		wantRead(t, c.line+"\n", c.want)
		wantRead(t, c.line+"\n"+c.line+"\ndump\n"+c.line, c.want, c.want, opDump(), c.want)
	}
}

// Promise 16: each word with its number of further words, one too few, one too many, and none.
func TestParseNumberOfWords(t *testing.T) {
	for _, form := range scriptForms {
		line := strings.ReplaceAll(strings.ReplaceAll(form, "HEX", "6a"), "N", "4")
		if p := wantParsed(t, line); p.Code != impl.OK {
			t.Errorf("%q: code %d", line, p.Code)
		}
		words := strings.Fields(line)
		for n := 1; n < len(words)+3; n++ {
			few := strings.Join(append(slices.Clone(words), "4", "4", "4")[:n], " ")
			if n != len(words) {
				wantFault(t, few, impl.ErrArgs, 1)
				wantFault(t, "dump\n\n"+few+"\nfoo", impl.ErrArgs, 3)
			}
		}
		wantFault(t, line+" #", impl.ErrArgs, 1)
		wantFault(t, line+" # more", impl.ErrArgs, 1)
		wantFault(t, line+" \r", impl.ErrArgs, 1)
	}
}

// Promise 16: words that are in the table but for a letter, its case, or a byte more.
func TestParseWrongWords(t *testing.T) {
	for _, form := range scriptForms {
		line := strings.ReplaceAll(strings.ReplaceAll(form, "HEX", "6a"), "N", "4")
		word, rest, _ := strings.Cut(line, " ")
		for k := range len(word) {
			wantFault(t, word[:k]+strings.ToUpper(word[k:k+1])+word[k+1:]+" "+rest, impl.ErrWord, 1)
			wantFault(t, word[:k]+word[k+1:]+"x "+rest, impl.ErrWord, 1)
			wantFault(t, word[:k+1]+word[k:]+" "+rest, impl.ErrWord, 1)
		}
		for _, b := range []string{"\r", "\x00", "\v", "\f", "#", ":", "\u00a0", "\u2003", "\xff", "1"} {
			wantFault(t, word+b+" "+rest, impl.ErrWord, 1)
			if b != "#" {
				wantFault(t, b+word+" "+rest, impl.ErrWord, 1)
			}
		}
		wantFault(t, word[1:]+" "+rest, impl.ErrWord, 1)
		wantFault(t, strings.ToUpper(word)+" "+rest, impl.ErrWord, 1)
	}
	for _, text := range []string{"x", "-", "0", "1", "insert 0 61", "\r", "\x00", "\xff", "\v", "\f", "\u00a0", "\u0085", "N", "HEX", "ins\u00a00\u00a061", "A"} {
		wantFault(t, text, impl.ErrWord, 1)
		wantFault(t, "\n\n \t"+text, impl.ErrWord, 3)
	}
}

// Promise 16, by hand: of several faults the first one told counts, in a line by the rules and from the left.
func TestParseFaultsInOrder(t *testing.T) {
	for _, c := range []struct {
		text       string
		code, line int
	}{
		{"foo 01 6g", impl.ErrWord, 1},
		{"foo", impl.ErrWord, 1},
		{"ins", impl.ErrArgs, 1},
		{"ins 01", impl.ErrArgs, 1},
		{"ins 01 6g x", impl.ErrArgs, 1},
		{"undo 01", impl.ErrArgs, 1},
		{"undo 6g", impl.ErrArgs, 1},
		{"ins 01 6g", impl.ErrNumber, 1},
		{"ins 1 6g", impl.ErrHex, 1},
		{"ins 6g 01", impl.ErrNumber, 1},
		{"ins - -", impl.ErrNumber, 1},
		{"ins -0 6", impl.ErrNumber, 1},
		{"ins 6a 1", impl.ErrNumber, 1},
		{"del 1 x", impl.ErrNumber, 1},
		{"del x 1", impl.ErrNumber, 1},
		{"mark 1 2 x", impl.ErrNumber, 1},
		{"policy 1 x 3", impl.ErrNumber, 1},
		{"op x", impl.ErrNumber, 1},
		{"op 1 2", impl.ErrArgs, 1},
		{"cap x", impl.ErrNumber, 1},
		{"undo\nfoo 1\n", impl.ErrWord, 2},
		{"ins 0 6\nfoo", impl.ErrHex, 1},
		{"del 0 +\nfoo\nins", impl.ErrNumber, 1},
		{"undo 1\nfoo\n", impl.ErrArgs, 1},
		{"foo\nundo 1\n", impl.ErrWord, 1},
		{"cap 3\n# foo\n\n \t \npolicy 1 2\nfoo", impl.ErrArgs, 5},
		{"ins 0 61\r\n", impl.ErrHex, 1},
		{"del 0 1\r\n", impl.ErrNumber, 1},
		{"dump\r\n", impl.ErrWord, 1},
		{"dump\r", impl.ErrWord, 1},
		{"dump\n\r\n", impl.ErrWord, 2},
		{"dump\n \r", impl.ErrWord, 2},
		{"\r# a comment", impl.ErrWord, 1},
	} {
		wantFault(t, c.text, c.code, c.line)
		wantFault(t, "\n# first\ndump\n"+c.text, c.code, c.line+3)
		wantFault(t, c.text+"\nundo", c.code, c.line)
	}
}

// Promise 16, by hand: blanks, comments, and how lines end.
func TestParseBlanksAndComments(t *testing.T) {
	for _, text := range []string{"", "\n", "\n\n\n", " ", "\t", " \t \t", " \n\t\n \t\n", "#", "# undo", "#undo", "##", "#\n", " # undo 1 2", "\t#undo\n", "\t \t#\xff\x00\r",
		"# a\n#b\n\n  #", "#\r\n", "#ins 0 61\n\n"} {
		wantRead(t, text)
		wantRead(t, text+"\nundo", opUndo())
		wantRead(t, "undo\n"+text, opUndo())
		wantRead(t, "undo\n"+text+"\n", opUndo())
		wantFault(t, text+"\nx", impl.ErrWord, strings.Count(text, "\n")+2)
	}
	for _, text := range []string{"del 1 2", " del 1 2", "del 1 2 ", "\tdel\t1\t2\t", "  del   1 \t 2\t ", "del\t \t1 2", "\n\ndel 1 2", "del 1 2\n\n", "del 1 2\n#", "#x\ndel 1 2\n \n"} {
		wantRead(t, text, opDelete(1, 2))
		wantRead(t, text+"\n", opDelete(1, 2))
	}
	for _, text := range []string{"undo #", "undo # x", "undo #x", "undo\t#"} {
		wantFault(t, text, impl.ErrArgs, 1)
	}
	wantFault(t, "undo#", impl.ErrWord, 1)
	wantFault(t, "where #", impl.ErrNumber, 1)
	wantFault(t, "ins 0 #", impl.ErrHex, 1)
	wantFault(t, "where 1#", impl.ErrNumber, 1)
	for b := range 256 {
		for _, text := range []string{"del%s1 2", "del 1%s2", "%sdel 1 2", "del 1 2%s", "undo%sundo", "ins 0 61%s", "%s", "#%sfoo"} {
			wantParsed(t, fmt.Sprintf(text, string([]byte{byte(b)})))
		}
	}
}

// Promise 16, by hand: what is a number and what isn't.
func TestParseNumbers(t *testing.T) {
	for word, want := range map[string]int{"0": 0, "1": 1, "-1": -1, "9": 9, "10": 10, "-10": -10, "999999999999999999": 999999999999999999,
		"-999999999999999999": -999999999999999999, "100000000000000000": 100000000000000000, "-100000000000000000": -100000000000000000} {
		wantRead(t, "where "+word, opLineCol(want))
		wantRead(t, "mark "+word+" 0 "+word, opMark(want, 0, want))
		wantRead(t, "del "+word+" "+word, opDelete(want, want))
		wantRead(t, "ins "+word+" 61", opInsert(want, "a"))
		wantRead(t, "op "+word, impl.Op{Kind: want})
		p := wantParsed(t, "cap "+word+"\npolicy "+word+" 0 "+word)
		if p.Code != impl.OK || p.Cap != want || p.Policy != (impl.Policy{Big: want, Run: want}) || len(p.Ops) != 0 {
			t.Errorf("cap and policy of %s: %s", word, spellParsed(p))
		}
	}
	for _, word := range []string{"-0", "00", "01", "-01", "007", "+1", "+0", "+", "-", "--1", "-+1", "1-", "1+", "1_0", "0x1", "0b1", "0o7", "1e2", "1.0", ".", "a", "1a", "a1",
		"1234567890123456789", "-1234567890123456789", "1000000000000000000", "0000000000000000001", "9223372036854775807", "9223372036854775808", "-9223372036854775808",
		"18446744073709551617", strings.Repeat("9", 5000), "\u0661", "1\x00", "\xff", "1\r", "'1'", "1,0"} {
		for _, form := range []string{"where %s", "del %s 1", "del 1 %s", "mark %s 0 0", "mark 0 %s 0", "mark 0 0 %s", "ins %s 61", "op %s", "cap %s", "policy %s 0 0", "policy 0 %s 0",
			"policy 0 0 %s", "snap %s", "back %s", "move %s", "drop %s", "look %s", "at %s 0", "at 0 %s", "get %s 0", "get 0 %s"} {
			wantFault(t, fmt.Sprintf(form, word), impl.ErrNumber, 1)
		}
	}
}

// Promise 16, by hand: what is hexadecimal text and what isn't.
func TestParseHex(t *testing.T) {
	for word, want := range map[string]string{"-": "", "00": "\x00", "ff": "\xff", "0a": "\n", "a0": "\xa0", "c3a9": "\u00e9", "0123456789abcdef": "\x01\x23\x45\x67\x89\xab\xcd\xef",
		"2d": "-", "e282": "\xe2\x82", strings.Repeat("20", 6000): strings.Repeat(" ", 6000)} {
		wantRead(t, "ins 3 "+word, opInsert(3, want))
	}
	for _, word := range []string{"6", "616", "6A", "A6", "FF", "6g", "g6", "--", "-6", "6-", "---", "-61", "61-", "0x61", "+6", "\xff\xff", "\u00e9", "6\x00", "61\r", "616\r", "@@", "``", "//", "::",
		"GG", "61" + strings.Repeat("0", 4001)} {
		wantFault(t, "ins 3 "+word, impl.ErrHex, 1)
	}
	wantFault(t, "ins 3 6 1", impl.ErrArgs, 1)
	wantFault(t, "ins 3 ", impl.ErrArgs, 1)
	wantFault(t, "ins 3", impl.ErrArgs, 1)
	for b := range 256 {
		pair := fmt.Sprintf("%02x", b)
		wantRead(t, "ins 0 "+pair, opInsert(0, string([]byte{byte(b)})))
		wantParsed(t, "ins 0 "+strings.ToUpper(pair))
		for c := range 256 {
			wantParsed(t, "ins 0 "+string([]byte{byte(b), byte(c)}))
		}
	}
}

// Promise 16, by hand: cap and policy stand in any line; the last ones count, for the whole script.
func TestParseCapAndPolicy(t *testing.T) {
	usual := impl.Policy{Big: 1000, Near: 20, Run: 4}
	for _, c := range []struct {
		text string
		cap  int
		pol  impl.Policy
		ops  int
	}{
		{"", 100, usual, 0},
		{"undo", 100, usual, 1},
		{"cap 5", 5, usual, 0},
		{"policy 1 -2 3", 100, impl.Policy{Big: 1, Near: -2, Run: 3}, 0},
		{"cap 0\ncap -7", -7, usual, 0},
		{"cap 5\nundo\ncap 6\nredo\n", 6, usual, 2},
		{"undo\nredo\ncap 100000\n", 100000, usual, 2},
		{"policy 0 0 0\nundo\npolicy 9 8 7\ncap 1", 1, impl.Policy{Big: 9, Near: 8, Run: 7}, 1},
		{"cap 1\npolicy 9 8 7\ncap 100\npolicy 1000 20 4\n#cap 3", 100, usual, 0},
	} {
		p := wantParsed(t, c.text)
		if p.Code != impl.OK || p.Line != 0 || p.Cap != c.cap || p.Policy != c.pol || len(p.Ops) != c.ops {
			t.Errorf("%q: %s", c.text, spellParsed(p))
		}
		wantFault(t, c.text+"\nfoo", impl.ErrWord, strings.Count(c.text, "\n")+2)
		wantFault(t, c.text+"\ncap", impl.ErrArgs, strings.Count(c.text, "\n")+2)
		wantFault(t, c.text+"\npolicy 1 2 -", impl.ErrNumber, strings.Count(c.text, "\n")+2)
	}
}

// Promise 16: MaxScript bytes are read, one more is not, whatever they are.
func TestParseMaxScript(t *testing.T) {
	for name, text := range map[string]string{
		"ends":        strings.Repeat("end\n", impl.MaxScript/4),
		"newlines":    strings.Repeat("\n", impl.MaxScript),
		"blanks":      strings.Repeat(" ", impl.MaxScript),
		"a comment":   strings.Repeat("#", impl.MaxScript),
		"one word":    strings.Repeat("x", impl.MaxScript),
		"many words":  strings.Repeat("undo ", impl.MaxScript/5) + "undo",
		"one text":    "ins 0 " + strings.Repeat("61", (impl.MaxScript-6)/2),
		"zeros":       strings.Repeat("\x00", impl.MaxScript),
		"a last line": strings.Repeat("# a comment.\n\n#", impl.MaxScript/15) + "dump",
	} {
		text = text[:min(len(text), impl.MaxScript)]
		text = strings.Repeat("\n", impl.MaxScript-len(text)) + text
		if p := wantParsed(t, text); p.Code == impl.ErrLarge {
			t.Errorf("%s: MaxScript bytes are refused", name)
		}
		for _, more := range []string{"\n", " ", "x", "#", strings.Repeat("undo\n", 5000)} {
			wantFault(t, text+more, impl.ErrLarge, 0)
			wantFault(t, more+text, impl.ErrLarge, 0)
		}
	}
	if p := impl.ParseScript([]byte(strings.Repeat("end\n", impl.MaxScript/4))); len(p.Ops) != impl.MaxScript/4 {
		t.Errorf("%d operations of %d", len(p.Ops), impl.MaxScript/4)
	}
	wantFault(t, strings.Repeat("\n", impl.MaxScript-1)+"x", impl.ErrWord, impl.MaxScript)
}

// Promise 16: all lines of few words from a store of right and wrong ones.
func TestParseShortLines(t *testing.T) {
	words := []string{"ins", "del", "undo", "op", "cap", "policy", "#", "#x", "0", "-5", "-", "-0", "01", "6a", "6A", "x", "\r"}
	var grow func(line string, n int)
	grow = func(line string, n int) {
		wantParsed(t, line)
		wantParsed(t, "undo\n"+line+"\nredo")
		if n == 4 {
			return
		}
		for k, word := range words {
			grow(line+[]string{" ", "\t", "  "}[(k+n)%3]+word, n+1)
		}
	}
	grow("", 0)
}

// Promise 16: scripts with a byte changed, taken out or put in.
func TestParseChangedBytes(t *testing.T) {
	const text = "cap 5\n\tins 3  c3a9\nmark -4 2 1 \n# no\nop -9\npolicy 10 2 3\nins 0 -"
	for at := range len(text) {
		wantParsed(t, text[:at])
		wantParsed(t, text[at:])
		wantParsed(t, text[:at]+text[at+1:])
		for b := range 256 {
			wantParsed(t, text[:at]+string([]byte{byte(b)})+text[at+1:])
			wantParsed(t, text[:at]+string([]byte{byte(b)})+text[at:])
		}
	}
}

// Promise 16: scripts written by the rules are read back, with blanks, comments, caps and policies anywhere.
func TestScriptsReadBack(t *testing.T) {
	blanks := []string{" ", "\t", "  ", " \t "}
	numbers := []int{0, 1, -1, 7, 8192, -8193, 999999999999999999, -999999999999999999, 100000000000000000}
	for seed := range 400 {
		d := dice(seed)
		want := impl.Parsed{Cap: 100, Policy: impl.Policy{Big: 1000, Near: 20, Run: 4}}
		var text strings.Builder
		number := func() int { return numbers[d.roll(len(numbers))] }
		line := func(words string) {
			for k, word := range strings.Fields(words) {
				if k > 0 || d.roll(3) == 0 {
					text.WriteString(blanks[d.roll(4)])
				}
				text.WriteString(word)
			}
			text.WriteString([]string{"\n", " \n", "\t\n\n", "\n# undo\n", "\n \t\n"}[d.roll(5)])
		}
		for text.Len() < 15000*(seed%2)+seed {
			switch d.roll(12) {
			case 0:
				want.Cap = number()
				line(fmt.Sprintf("cap %d", want.Cap))
			case 1:
				want.Policy = impl.Policy{Big: number(), Near: number(), Run: number()}
				line(fmt.Sprintf("policy %d %d %d", want.Policy.Big, want.Policy.Near, want.Policy.Run))
			default:
				op := named(impl.Op{Kind: d.roll(20) - 1, A: number(), B: number(), C: number(), Text: []byte(putBytes[d.roll(len(putBytes))])})
				want.Ops = append(want.Ops, op)
				line(scriptLine(op))
			}
		}
		script := text.String()
		if seed%3 == 0 {
			script = strings.TrimSuffix(script, "\n")
		}
		if got := wantParsed(t, script); spellParsed(got) != spellParsed(want) {
			t.Errorf("seed %d: %.300s, want %.300s", seed, spellParsed(got), spellParsed(want))
		}
	}
}

// Promise 16 with rule 4 of chapter 1: the bytes are not changed, what is read doesn't hang on them, and no two lists share.
func TestParseSharesNothing(t *testing.T) {
	const text = "ins 0 6162\nins 1 63646566\ncap 7\nins 2 67\nins 3 -\n"
	part, whole := spare([]byte(text), 'x')
	before := slices.Clone(whole)
	got := impl.ParseScript(part)
	impl.RunScript(part)
	wantSame(t, "bytes behind reading", whole, before)
	overwrite(whole)
	want := spellParsed(modelParse(text))
	if spellParsed(got) != want {
		t.Errorf("behind writing into the bytes: %s", spellParsed(got))
	}
	for k, op := range got.Ops {
		kept := string(op.Text)
		overwrite(op.Text)
		for j, other := range got.Ops[k+1:] {
			if want := []string{"ab", "cdef", "g", ""}[k+1+j]; string(other.Text) != want {
				t.Errorf("behind writing into text %d: %q, want %q", k, other.Text, want)
			}
		}
		got.Ops[k].Text = []byte(kept)
	}
	for _, faulty := range []string{"ins 0 616", "x"} {
		part, whole = spare([]byte(text+faulty), 'x')
		before = slices.Clone(whole)
		impl.ParseScript(part)
		wantSame(t, "bytes behind refusing", whole, before)
	}
}
