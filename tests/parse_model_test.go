package tests

import (
	"encoding/hex"
	"fmt"
	"regexp"
	"slices"
	"strconv"
	"strings"
	"testing"

	"loop.example/s01685/impl"
)

// scriptForms is chapter 8's table of words: the first sixteen give the kinds from 1 on.
var scriptForms = []string{"ins N HEX", "del N N", "get N N", "where N", "at N N", "mark N N N", "drop N", "look N", "undo", "redo", "begin", "end",
	"snap N", "back N", "move N", "dump", "op N", "cap N", "policy N N N"}

var (
	scriptWord   = regexp.MustCompile(`[^ \t]+`)
	scriptNumber = regexp.MustCompile(`^(0|-?[1-9][0-9]{0,17})$`)
	scriptHex    = regexp.MustCompile(`^(-|([0-9a-f][0-9a-f])+)$`)
)

// modelParse follows chapter 8 word by word.
func modelParse(text string) impl.Parsed {
	if len(text) > 16384 {
		return impl.Parsed{Code: impl.ErrLarge}
	}
	p := impl.Parsed{Cap: 100, Policy: impl.Policy{Big: 1000, Near: 20, Run: 4}}
	for k, line := range strings.Split(text, "\n") {
		words := scriptWord.FindAllString(line, -1)
		if len(words) == 0 || words[0][0] == '#' {
			continue
		}
		if code := modelParseLine(&p, words); code != impl.OK {
			return impl.Parsed{Code: code, Line: k + 1}
		}
	}
	return p
}

// modelParseLine reads a line's words into p.
func modelParseLine(p *impl.Parsed, words []string) int {
	row := slices.IndexFunc(scriptForms, func(form string) bool { return strings.Fields(form)[0] == words[0] })
	if row < 0 {
		return impl.ErrWord
	}
	form := strings.Fields(scriptForms[row])
	if len(words) != len(form) {
		return impl.ErrArgs
	}
	var numbers [3]int
	var text []byte
	for k := 1; k < len(words); k++ {
		switch {
		case form[k] == "N" && !scriptNumber.MatchString(words[k]):
			return impl.ErrNumber
		case form[k] == "HEX" && !scriptHex.MatchString(words[k]):
			return impl.ErrHex
		case form[k] == "N":
			numbers[k-1], _ = strconv.Atoi(words[k])
		default:
			text, _ = hex.DecodeString(strings.Trim(words[k], "-"))
		}
	}
	switch form[0] {
	case "cap":
		p.Cap = numbers[0]
	case "policy":
		p.Policy = impl.Policy{Big: numbers[0], Near: numbers[1], Run: numbers[2]}
	case "op":
		p.Ops = append(p.Ops, impl.Op{Kind: numbers[0]})
	default:
		p.Ops = append(p.Ops, impl.Op{Kind: row + 1, A: numbers[0], B: numbers[1], C: numbers[2], Text: text})
	}
	return impl.OK
}

// spellParsed tells all that was read; two scripts are the same if this is.
func spellParsed(p impl.Parsed) string {
	s := fmt.Sprintf("code %d, line %d, cap %d, policy %v:", p.Code, p.Line, p.Cap, p.Policy)
	for _, op := range p.Ops {
		s += fmt.Sprintf(" %d %d %d %d %q", op.Kind, op.A, op.B, op.C, op.Text)
	}
	return s
}

// wantParsed holds the reading of a script against the model.
func wantParsed(t *testing.T, text string) impl.Parsed {
	t.Helper()
	got := impl.ParseScript([]byte(text))
	if a, b := spellParsed(got), spellParsed(modelParse(text)); a != b {
		t.Errorf("%.80q: %.200s, want %.200s", text, a, b)
	}
	return got
}

// wantRead asks that a script is read as these operations, under the usual cap and policy.
func wantRead(t *testing.T, text string, ops ...impl.Op) {
	t.Helper()
	want := spellParsed(impl.Parsed{Ops: ops, Cap: 100, Policy: impl.Policy{Big: 1000, Near: 20, Run: 4}})
	if got := spellParsed(wantParsed(t, text)); got != want {
		t.Errorf("%.80q: %.200s, want %.200s", text, got, want)
	}
}

// wantFault asks that a script is refused at a line, and that all else is zero.
func wantFault(t *testing.T, text string, code, line int) {
	t.Helper()
	want := spellParsed(impl.Parsed{Code: code, Line: line})
	if got := spellParsed(wantParsed(t, text)); got != want {
		t.Errorf("%.80q: %.200s, want %s", text, got, want)
	}
	if told, bad := impl.RunScript([]byte(text)), fmt.Sprintf("bad %d %d\n", code, line); string(told) != bad {
		t.Errorf("%.80q is told as %.80q, want %q", text, told, bad)
	}
}

// modelTell writes observations by chapter 8.
func modelTell(obs []impl.Obs) string {
	var told strings.Builder
	for _, o := range obs {
		fmt.Fprintf(&told, "%d %d %d %d %d %d %d %d", o.Code, o.X, o.Y, o.Len, o.Lines, o.Undo, o.Redo, o.Open)
		if len(o.Text) > 0 {
			told.WriteString(" :")
		}
		for _, r := range o.Text {
			if !isCharacter(r) {
				r = 0xFFFD
			}
			fmt.Fprintf(&told, "%x", string(r))
		}
		for _, m := range o.Marks {
			letter := "R"
			if m.Grav == 0 {
				letter = "L"
			}
			fmt.Fprintf(&told, " %d@%d%s", m.Id, m.Off, letter)
		}
		told.WriteString("\n")
	}
	return told.String()
}

// scriptLine writes an operation by the rules; one that no word of its own gives is written by op.
func scriptLine(op impl.Op) string {
	if op.Kind < 1 || op.Kind > 16 {
		return fmt.Sprintf("op %d", op.Kind)
	}
	words := strings.Fields(scriptForms[op.Kind-1])
	for k, word := range words {
		switch {
		case word == "HEX" && len(op.Text) == 0:
			words[k] = "-"
		case word == "HEX":
			words[k] = fmt.Sprintf("%x", op.Text)
		case word == "N":
			words[k] = strconv.Itoa([]int{op.A, op.B, op.C}[k-1])
		}
	}
	return strings.Join(words, " ")
}

// named leaves of an operation what its line tells.
func named(op impl.Op) impl.Op {
	form := ""
	if op.Kind >= 1 && op.Kind <= 16 {
		form = scriptForms[op.Kind-1]
	}
	if n := strings.Count(form, "N"); n < 1 {
		op.A, op.B, op.C = 0, 0, 0
	} else if n < 2 {
		op.B, op.C = 0, 0
	} else if n < 3 {
		op.C = 0
	}
	if !strings.Contains(form, "HEX") {
		op.Text = nil
	}
	return op
}
