package tests

import (
	"fmt"
	"slices"
	"strings"
	"testing"

	"loop.example/s01685/impl"
)

// wantTelling holds the telling of observations against the model.
func wantTelling(t *testing.T, what string, obs []impl.Obs) {
	t.Helper()
	if got, want := string(impl.TellObs(obs)), modelTell(obs); got != want {
		t.Errorf("%s: %.200q, want %.200q", what, got, want)
	}
}

// Promise 16, by hand: observations with and without text and marks, with any integers and runes.
func TestTellByHand(t *testing.T) {
	for _, c := range []struct {
		obs  []impl.Obs
		want string
	}{
		{nil, ""},
		{[]impl.Obs{}, ""},
		{[]impl.Obs{{}}, "0 0 0 0 0 0 0 0\n"},
		{[]impl.Obs{{}, {}}, "0 0 0 0 0 0 0 0\n0 0 0 0 0 0 0 0\n"},
		{[]impl.Obs{{Code: 1, X: 2, Y: 3, Len: 4, Lines: 5, Undo: 6, Redo: 7, Open: 8}}, "1 2 3 4 5 6 7 8\n"},
		{[]impl.Obs{{Code: -1, X: -20, Y: 300, Len: -4000, Lines: 50000, Undo: -6, Redo: 7, Open: -8}}, "-1 -20 300 -4000 50000 -6 7 -8\n"},
		{[]impl.Obs{{Code: 1<<63 - 1, X: -1 << 63, Open: -1 << 63}}, "9223372036854775807 -9223372036854775808 0 0 0 0 0 -9223372036854775808\n"},
		{[]impl.Obs{{Text: []int32{'a', '\n', 0}}}, "0 0 0 0 0 0 0 0 :610a00\n"},
		{[]impl.Obs{{Text: []int32{233, 8364, 128512}}}, "0 0 0 0 0 0 0 0 :c3a9e282acf09f9880\n"},
		{[]impl.Obs{{Text: []int32{-1, 55296, 57343, 1114112, 1 << 30, -1 << 31}}}, "0 0 0 0 0 0 0 0 :" + strings.Repeat("efbfbd", 6) + "\n"},
		{[]impl.Obs{{Text: []int32{127, 128, 2047, 2048, 55295, 57344, 65535, 65536, 1114111}}},
			"0 0 0 0 0 0 0 0 :7fc280dfbfe0a080ed9fbfee8080efbfbff0908080f48fbfbf\n"},
		{[]impl.Obs{{Text: []int32{}, Marks: []impl.Mark{}}}, "0 0 0 0 0 0 0 0\n"},
		{[]impl.Obs{{Marks: []impl.Mark{{}}}}, "0 0 0 0 0 0 0 0 0@0L\n"},
		{[]impl.Obs{{Marks: []impl.Mark{{Id: -2, Off: 9, Grav: 0}, {Id: 5, Off: 0, Grav: 1}}}}, "0 0 0 0 0 0 0 0 -2@9L 5@0R\n"},
		{[]impl.Obs{{Marks: []impl.Mark{{Id: 1, Off: -3, Grav: 2}, {Id: 1, Off: -3, Grav: -1}, {Id: 1, Off: -3, Grav: -1 << 63}}}},
			"0 0 0 0 0 0 0 0 1@-3R 1@-3R 1@-3R\n"},
		{[]impl.Obs{{Marks: []impl.Mark{{Id: -1 << 63, Off: 1<<63 - 1, Grav: 1<<63 - 1}}}}, "0 0 0 0 0 0 0 0 -9223372036854775808@9223372036854775807R\n"},
		{[]impl.Obs{{Text: []int32{'z'}, Marks: []impl.Mark{{Id: 7, Off: 1, Grav: 1}}, Len: 1, Lines: 1}, {Code: 13}},
			"0 0 0 1 1 0 0 0 :7a 7@1R\n13 0 0 0 0 0 0 0\n"},
	} {
		if got := string(impl.TellObs(c.obs)); got != c.want {
			t.Errorf("%v: %q, want %q", c.obs, got, c.want)
		}
		wantTelling(t, fmt.Sprint(c.obs), c.obs)
	}
}

// Promise 16: observations of any numbers, texts and marks; and very many of them.
func TestTellByTheModel(t *testing.T) {
	numbers := append([]int{0, 1, -1, 9, 10, -10, 99, 100, 12345}, extremes...)
	runes := []int32{'a', 0, 10, 32, ':', 127, 128, 233, 2047, 2048, 55295, 55296, 57343, 57344, 65533, 65536, 1114111, 1114112, -1, -1 << 31, 1<<31 - 1}
	for seed := range 300 {
		d := dice(seed)
		number := func() int { return numbers[d.roll(len(numbers))] }
		var obs []impl.Obs
		for range d.roll(6) {
			o := impl.Obs{Code: number(), X: number(), Y: number(), Len: number(), Lines: number(), Undo: number(), Redo: number(), Open: number()}
			for range d.roll(5) * d.roll(3) {
				o.Text = append(o.Text, runes[d.roll(len(runes))])
			}
			for range d.roll(4) * d.roll(2) {
				o.Marks = append(o.Marks, impl.Mark{Id: number(), Off: number(), Grav: number()})
			}
			obs = append(obs, o)
		}
		wantTelling(t, fmt.Sprintf("seed %d", seed), obs)
	}
	wantTelling(t, "a great text", []impl.Obs{{Text: someRunes(300000), Marks: make([]impl.Mark, 5000)}})
	wantTelling(t, "many", make([]impl.Obs, 50000))
}

// Promise 16 with rule 4 of chapter 1: the observations aren't changed.
func TestTellSharesNothing(t *testing.T) {
	text, wholeText := spare([]int32{'a', -1}, 77)
	marks, unchanged := guardedMarks(t, marked("1@2L 3@4R"))
	before := slices.Clone(wholeText)
	impl.TellObs([]impl.Obs{{Text: text, Marks: marks}})
	wantSame(t, "text behind telling", wholeText, before)
	unchanged("marks behind telling")
}

// Promise 16, by hand: scripts whose observations are known, and faulty ones.
func TestRunScriptByHand(t *testing.T) {
	for _, c := range []struct{ text, want string }{
		{"", ""},
		{"# nothing\ncap 3\n", ""},
		{"dump", "0 0 0 0 1 0 0 0\n"},
		{"ins 0 6162\nget 0 2\nmark 4 1 0\nundo\ndump\nget 0 1\n",
			"0 2 0 2 1 1 0 0\n0 0 0 2 1 1 0 0 :6162\n0 0 0 2 1 1 0 0\n0 1 0 0 1 0 1 0\n0 0 0 0 1 0 1 0 4@0L\n2 0 0 0 1 0 1 0\n"},
		{"ins 0 610aff\nwhere 3\nat 1 1\nmove 1\nmark -5 2 1\nbegin\ndel 0 1\nend\ndump\nop 99\nlook -5\ndrop -5\nsnap 7\nredo\nback 7\nundo\ndump",
			"0 3 0 3 2 1 0 0\n0 1 1 3 2 1 0 0\n0 3 0 3 2 1 0 0\n0 0 0 3 2 1 0 0\n0 0 0 3 2 1 0 0\n0 0 0 3 2 1 0 1\n0 1 0 2 2 1 0 1\n0 1 0 2 2 2 0 0\n" +
				"0 0 0 2 2 2 0 0 :0aefbfbd -5@1R\n13 0 0 2 2 2 0 0\n0 1 1 2 2 2 0 0\n0 1 0 2 2 2 0 0\n0 0 0 2 2 2 0 0\n6 0 0 2 2 2 0 0\n0 0 0 2 2 2 0 0\n" +
				"0 1 0 3 2 1 1 0\n0 0 0 3 2 1 1 0 :610aefbfbd\n"},
		{"ins 0 61\nins 1 62\ncap 1\nundo\nundo\n", "0 1 0 1 1 1 0 0\n0 1 0 2 1 1 0 0\n0 1 0 1 1 0 1 0\n6 0 0 1 1 0 1 0\n"},
		{"undo\nget 0\n", "bad 16 2\n"},
		{"x", "bad 15 1\n"},
		{"\n\nins 0 6", "bad 18 3\n"},
		{"dump\n# x\nwhere 00\nx", "bad 17 3\n"},
		{strings.Repeat("\n", impl.MaxScript+1), "bad 14 0\n"},
	} {
		if got := string(impl.RunScript([]byte(c.text))); got != c.want {
			t.Errorf("%.80q: %q, want %q", c.text, got, c.want)
		}
	}
	if got := impl.RunScript(nil); len(got) != 0 {
		t.Errorf("nothing: %q", got)
	}
}

// Promise 16: scripts of all sorts as text tell what the model sees; no policy, no Move and no comment is to be seen.
func TestRunScriptByTheModel(t *testing.T) {
	all := policies()
	for habit := range habits {
		for seed := range 60 {
			hcap := []int{100, 3, 1, 0, -5}[seed%5]
			pol := all[seed%len(all)]
			// A script can't tell the greatest integers, so the policy's are made smaller.
			head := fmt.Sprintf("cap %d\npolicy %d %d %d\n", hcap, pol.Big%100000, pol.Near%100000, pol.Run%100000)
			e := newModel(t, hcap)
			e.plain = true
			var text strings.Builder
			var want []impl.Obs
			for _, op := range scriptOf(t, habit, 5000+seed, 100, hcap) {
				op = named(op)
				if line := scriptLine(op); modelParse(line).Code == impl.OK {
					text.WriteString(line + "\n")
					want = append(want, e.step(op))
				}
			}
			for _, script := range []string{head + text.String(), text.String() + head, text.String() + "cap 9\n" + head} {
				if got := string(impl.RunScript([]byte(script))); got != modelTell(want) {
					t.Fatalf("%s, seed %d: %.300q, want %.300q", habit, seed, got, modelTell(want))
				}
			}
		}
	}
}
