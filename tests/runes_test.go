package tests

import (
	"fmt"
	"math"
	"slices"
	"testing"
	"unicode/utf8"

	"loop.example/s01685/impl"
)

const bad = impl.Replacement

func isCharacter(r int32) bool {
	return 0 <= r && r <= 1114111 && !(55296 <= r && r <= 57343)
}

// wellFormed lists the UTF-8 of every real character, and beginnings every proper beginning of one. They tell the
// document's rule without its table.
func wellFormed() (whole map[string]int32, beginnings map[string]bool) {
	whole, beginnings = map[string]int32{}, map[string]bool{}
	for r := int32(0); r <= 1114111; r++ {
		if !isCharacter(r) {
			continue
		}
		s := string(r)
		whole[s] = r
		for n := 1; n < len(s); n++ {
			beginnings[s[:n]] = true
		}
	}
	return whole, beginnings
}

// modelDecode reads bytes by chapter 2's rule of the longest beginning.
func modelDecode(b string, whole map[string]int32, beginnings map[string]bool) []int32 {
	var text []int32
	for len(b) > 0 {
		r, size := int32(bad), 1
		for n := 1; n <= min(4, len(b)); n++ {
			if c, ok := whole[b[:n]]; ok {
				r, size = c, n
				break
			}
			if beginnings[b[:n]] {
				size = n
			}
		}
		text = append(text, r)
		b = b[size:]
	}
	return text
}

// edgeBytes are the ends of all ranges in chapter 2's table and the bytes beside them.
var edgeBytes = []byte{0x00, 0x41, 0x7F, 0x80, 0x81, 0x8F, 0x90, 0x9F, 0xA0, 0xBF, 0xC0, 0xC1, 0xC2, 0xDF, 0xE0, 0xE1,
	0xEC, 0xED, 0xEE, 0xEF, 0xF0, 0xF1, 0xF3, 0xF4, 0xF5, 0xFF}

// Promise 1: the decoder against the rule as it is worded, over all pairs of bytes and all four edge bytes.
func TestDecodeByTheRule(t *testing.T) {
	whole, beginnings := wellFormed()
	check := func(b []byte) {
		got, want := impl.DecodeText(b), modelDecode(string(b), whole, beginnings)
		if !slices.Equal(got, want) {
			t.Errorf("decoding % x: %v, want %v", b, got, want)
		}
	}
	for x := range 256 {
		check([]byte{byte(x)})
		for y := range 256 {
			check([]byte{byte(x), byte(y)})
			check([]byte{byte(x), byte(y), 0x80, 0x80})
		}
	}
	for _, x := range edgeBytes {
		for _, y := range edgeBytes {
			for _, z := range edgeBytes {
				check([]byte{x, y, z})
				for _, w := range edgeBytes {
					check([]byte{x, y, z, w})
				}
			}
		}
	}
}

// Promise 1: each row of the table at the ends of its ranges, in each byte.
func TestDecodeRows(t *testing.T) {
	for _, c := range []struct {
		in   string
		want int32
	}{
		{"\x00", 0}, {"\x7F", 127},
		{"\xC2\x80", 128}, {"\xC2\xBF", 191}, {"\xDF\x80", 1984}, {"\xDF\xBF", 2047},
		{"\xE0\xA0\x80", 2048}, {"\xE0\xA0\xBF", 2111}, {"\xE0\xBF\x80", 4032}, {"\xE0\xBF\xBF", 4095},
		{"\xE1\x80\x80", 4096}, {"\xE1\xBF\xBF", 8191}, {"\xEC\x80\x80", 49152}, {"\xEC\xBF\xBF", 53247},
		{"\xED\x80\x80", 53248}, {"\xED\x80\xBF", 53311}, {"\xED\x9F\x80", 55232}, {"\xED\x9F\xBF", 55295},
		{"\xEE\x80\x80", 57344}, {"\xEE\xBF\xBF", 61439}, {"\xEF\x80\x80", 61440}, {"\xEF\xBF\xBF", 65535},
		{"\xF0\x90\x80\x80", 65536}, {"\xF0\x90\x80\xBF", 65599}, {"\xF0\x90\xBF\x80", 69568},
		{"\xF0\xBF\x80\x80", 258048}, {"\xF0\xBF\xBF\xBF", 262143},
		{"\xF1\x80\x80\x80", 262144}, {"\xF1\xBF\xBF\xBF", 524287},
		{"\xF3\x80\x80\x80", 786432}, {"\xF3\xBF\xBF\xBF", 1048575},
		{"\xF4\x80\x80\x80", 1048576}, {"\xF4\x8F\x80\x80", 1110016}, {"\xF4\x8F\xBF\xBF", 1114111},
	} {
		wantSame(t, fmt.Sprintf("decoding % x", c.in), impl.DecodeText([]byte(c.in)), []int32{c.want})
	}
}

// Promise 1: the examples of chapter 2, sequences cut short, bytes that begin nothing, second bytes outside.
func TestDecodeFaults(t *testing.T) {
	for _, c := range []struct {
		in   string
		want []int32
	}{
		{"", nil},
		{"\xE2\x82", []int32{bad}},
		{"\xE2\x82A", []int32{bad, 65}},
		{"\xF0\x80\x80\x80", []int32{bad, bad, bad, bad}},
		{"\xED\xA0\x80", []int32{bad, bad, bad}},
		{"\xF1\x80\x80\xC3\xA9", []int32{bad, 233}},
		{"\xEF\xBB\xBFa", []int32{65279, 97}},
		{"a\xEF\xBB\xBF", []int32{97, 65279}},

		{"\xC2", []int32{bad}},
		{"\xE0", []int32{bad}},
		{"\xE0\xA0", []int32{bad}},
		{"\xED\x9F", []int32{bad}},
		{"\xF0", []int32{bad}},
		{"\xF0\x90", []int32{bad}},
		{"\xF0\x90\x80", []int32{bad}},
		{"\xF4\x8F\xBF", []int32{bad}},
		{"\xC2\n", []int32{bad, 10}},
		{"\xE1\xE1\x80\x80", []int32{bad, 4096}},
		{"\xF1\x80\x80\xF1\x80\x80\x80", []int32{bad, 262144}},
		{"\xF1\x80\x80\xFF\x80", []int32{bad, bad, bad}},

		{"\x80", []int32{bad}},
		{"\xBF\xBF", []int32{bad, bad}},
		{"\xC0\x80", []int32{bad, bad}},
		{"\xC1\xBF", []int32{bad, bad}},
		{"\xF5\x80\x80\x80", []int32{bad, bad, bad, bad}},
		{"\xFEa\xFF", []int32{bad, 97, bad}},

		{"\xE0\x9F\xBF", []int32{bad, bad, bad}},
		{"\xED\xBF\xBF", []int32{bad, bad, bad}},
		{"\xF0\x8F\xBF\xBF", []int32{bad, bad, bad, bad}},
		{"\xF4\x90\x80\x80", []int32{bad, bad, bad, bad}},
		{"\xE0\x9F", []int32{bad, bad}},
		{"\xF4\x90", []int32{bad, bad}},

		{"a\x80b\xE2\x82c\xF0\x9F\x98\x80\xF0\x9F\x98", []int32{97, bad, 98, bad, 99, 128512, bad}},
	} {
		wantSame(t, fmt.Sprintf("decoding % x", c.in), impl.DecodeText([]byte(c.in)), c.want)
	}
}

// Promise 1: the encoder at the ends of all lengths and of what is no character.
func TestEncodeEdges(t *testing.T) {
	const written = "\xEF\xBF\xBD"
	for _, c := range []struct {
		in   int32
		want string
	}{
		{0, "\x00"}, {10, "\n"}, {127, "\x7F"},
		{128, "\xC2\x80"}, {2047, "\xDF\xBF"},
		{2048, "\xE0\xA0\x80"}, {55295, "\xED\x9F\xBF"}, {57344, "\xEE\x80\x80"},
		{65279, "\xEF\xBB\xBF"}, {65533, written}, {65535, "\xEF\xBF\xBF"},
		{65536, "\xF0\x90\x80\x80"}, {1114111, "\xF4\x8F\xBF\xBF"},
		{55296, written}, {55297, written}, {56320, written}, {57342, written}, {57343, written},
		{1114112, written}, {1114113, written}, {2097152, written}, {math.MaxInt32, written},
		{-1, written}, {-10, written}, {-65533, written}, {math.MinInt32, written},
	} {
		wantSame(t, fmt.Sprintf("encoding %d", c.in), impl.EncodeText([]int32{c.in}), []byte(c.want))
	}
	wantSame(t, "encoding nothing", impl.EncodeText(nil), nil)
	wantSame(t, "encoding one after another", impl.EncodeText([]int32{8364, -1, 65, 55296, 233}),
		[]byte("\xE2\x82\xAC"+written+"A"+written+"\xC3\xA9"))
}

// Promise 1: all real characters, one by one and in one text, written as UTF-8 and read back.
func TestEncodeAndDecodeBack(t *testing.T) {
	var all []int32
	var want []byte
	for r := int32(0); r <= 1114111; r++ {
		if !isCharacter(r) {
			continue
		}
		all = append(all, r)
		want = utf8.AppendRune(want, r)
		one := []int32{r}
		if back := impl.DecodeText(impl.EncodeText(one)); !slices.Equal(back, one) {
			t.Fatalf("%d is read back as %v", r, back)
		}
	}
	b := impl.EncodeText(all)
	if string(b) != string(want) {
		t.Error("all characters in one text are not written as UTF-8")
	}
	if !slices.Equal(impl.DecodeText(b), all) {
		t.Error("all characters in one text are not read back")
	}
}

// Promise 1: what is no character is read back as the replacement.
func TestEncodeReplacesWhatIsNoCharacter(t *testing.T) {
	for r := int32(55296); r <= 57343; r++ {
		wantSame(t, fmt.Sprintf("encoding %d", r), impl.DecodeText(impl.EncodeText([]int32{r})), []int32{bad})
	}
	for _, r := range []int32{-1, -128, -55296, math.MinInt32, math.MinInt32 + 65, 1114112, 1179648, math.MaxInt32} {
		wantSame(t, fmt.Sprintf("encoding %d", r), impl.DecodeText(impl.EncodeText([]int32{r})), []int32{bad})
	}
}

// Promise 1 with rule 4 of chapter 1: arguments stay as they are, answers are new memory.
func TestDecodeAndEncodeShareNothing(t *testing.T) {
	b, wholeBytes := spare([]byte("a\xE2\x82\xC3\xA9\xF0\x9F"), 0x80)
	bytesBefore := slices.Clone(wholeBytes)
	text := impl.DecodeText(b)
	wantSame(t, "bytes behind decoding", wholeBytes, bytesBefore)
	overwrite(text)
	wantSame(t, "bytes behind writing into the answer", wholeBytes, bytesBefore)

	r, wholeRunes := spare([]int32{97, -1, 233, 55296}, 77)
	runesBefore := slices.Clone(wholeRunes)
	told := impl.EncodeText(r)
	wantSame(t, "runes behind encoding", wholeRunes, runesBefore)
	overwrite(told)
	wantSame(t, "runes behind writing into the answer", wholeRunes, runesBefore)
}
