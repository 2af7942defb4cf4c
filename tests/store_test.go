package tests

import (
	"bytes"
	"fmt"
	"math"
	"slices"
	"testing"

	"loop.example/s01685/impl"
)

// countingStore has length runes that differ from their neighbours; every tenth one or so is a break.
func countingStore(length int) []int32 {
	store := make([]int32, length)
	for k := range store {
		store[k] = int32(k % 11)
	}
	return store
}

func wantAppended(t *testing.T, store []int32, b []byte, added []int32) {
	t.Helper()
	got, sp, code := impl.StoreAppend(store, b)
	what := fmt.Sprintf("appending %d bytes to %d runes", len(b), len(store))
	if code != impl.OK {
		t.Errorf("%s: code %d", what, code)
	}
	if want := (impl.Span{Off: len(store), Len: len(added)}); sp != want {
		t.Errorf("%s: span %v, want %v", what, sp, want)
	}
	wantSame(t, what, got, slices.Concat(store, added))
	back, breaks, code := impl.StoreRead(got, sp)
	if code != impl.OK {
		t.Errorf("%s, read back: code %d", what, code)
	}
	wantSame(t, what+", read back", back, added)
	if want := breaksIn(added); breaks != want {
		t.Errorf("%s, read back: %d breaks, want %d", what, breaks, want)
	}
}

func wantFull(t *testing.T, store []int32, b []byte) {
	t.Helper()
	got, sp, code := impl.StoreAppend(store, b)
	if len(got) != 0 || sp != (impl.Span{}) || code != impl.ErrFull {
		t.Errorf("appending %d bytes to %d runes: %d runes, span %v, code %d, want nothing and ErrFull",
			len(b), len(store), len(got), sp, code)
	}
}

func breaksIn(text []int32) int {
	n := 0
	for _, r := range text {
		if r == 10 {
			n++
		}
	}
	return n
}

// Promise 2: empty and short stores, with no bytes, with characters and with bytes that decode to replacements.
func TestAppend(t *testing.T) {
	for _, store := range [][]int32{nil, {}, {97}, {10, -5, 1114112, math.MinInt32, math.MaxInt32}, countingStore(1000)} {
		wantAppended(t, store, nil, nil)
		wantAppended(t, store, []byte{}, nil)
		wantAppended(t, store, []byte("b"), []int32{98})
		wantAppended(t, store, []byte("\n"), []int32{10})
		wantAppended(t, store, []byte("\xC3\xA9\n\n\xF0\x9F\x98\x80"), []int32{233, 10, 10, 128512})
		wantAppended(t, store, []byte("\xE2\x82\n\xED\xA0\x80\xF4"), []int32{bad, 10, bad, bad, bad, bad})
	}
}

// Promise 2: stores that come to MaxStore exactly, one rune more, and stores beyond it. Runes count, not bytes.
func TestAppendAtTheLimit(t *testing.T) {
	full := countingStore(impl.MaxStore)
	wantAppended(t, full, nil, nil)
	wantFull(t, full, []byte("a"))
	wantFull(t, full, []byte("\xFF"))

	nearly := countingStore(impl.MaxStore - 1)
	wantAppended(t, nearly, []byte("\xF0\x9F\x98\x80"), []int32{128512})
	wantAppended(t, nearly, []byte("\xE2\x82"), []int32{bad})
	wantFull(t, nearly, []byte("ab"))
	wantFull(t, nearly, []byte("\xED\xA0"))

	wantAppended(t, countingStore(impl.MaxStore-3), []byte("\xF0\x80\x80"), []int32{bad, bad, bad})
	wantFull(t, countingStore(impl.MaxStore-2), []byte("\xF0\x80\x80"))

	for _, beyond := range []int{impl.MaxStore + 1, 2*impl.MaxStore + 7} {
		store := countingStore(beyond)
		wantFull(t, store, nil)
		wantFull(t, store, []byte{})
		wantFull(t, store, []byte("a"))
	}

	wantAppended(t, nil, bytes.Repeat([]byte("a"), impl.MaxStore), slices.Repeat([]int32{97}, impl.MaxStore))
	wantAppended(t, nil, bytes.Repeat([]byte("\xC3\xA9"), impl.MaxStore), slices.Repeat([]int32{233}, impl.MaxStore))
	wantFull(t, nil, bytes.Repeat([]byte("a"), impl.MaxStore+1))
}

// Promise 2: many texts, one behind the other up to MaxStore, are all read back out of the last store.
func TestAppendAndReadBack(t *testing.T) {
	parts := []string{"a\n", "", "\xE2\x82\xAC\n\n", "\x80\xFF", "\xF0\x9F\x98\x80 and more of it\n", "\xF1\x80\x80"}
	var store []int32
	var spans []impl.Span
	var texts [][]int32
	for k := 0; len(store) < 2000; k++ {
		b := []byte(parts[k%len(parts)])
		next, sp, code := impl.StoreAppend(store, b)
		if code != impl.OK {
			t.Fatalf("append number %d: code %d", k, code)
		}
		store, spans, texts = next, append(spans, sp), append(texts, impl.DecodeText(b))
	}
	rest := bytes.Repeat([]byte("\n"), impl.MaxStore-len(store))
	store, sp, code := impl.StoreAppend(store, rest)
	if code != impl.OK || len(store) != impl.MaxStore {
		t.Fatalf("up to the limit: %d runes, code %d", len(store), code)
	}
	spans, texts = append(spans, sp), append(texts, impl.DecodeText(rest))
	for k, sp := range spans {
		got, breaks, code := impl.StoreRead(store, sp)
		if code != impl.OK || breaks != breaksIn(texts[k]) {
			t.Errorf("text number %d: code %d, %d breaks", k, code, breaks)
		}
		wantSame(t, fmt.Sprintf("text number %d", k), got, texts[k])
	}
}

// Promise 2: every span of a short store and all around it.
func TestReadAllSpans(t *testing.T) {
	for _, store := range [][]int32{nil, {10}, {97, 10, 10, -7, 98, 10}} {
		for off := -2; off <= len(store)+2; off++ {
			for length := -2; length <= len(store)+2; length++ {
				got, breaks, code := impl.StoreRead(store, impl.Span{Off: off, Len: length})
				var want []int32
				wantCode := impl.ErrRange
				if off >= 0 && length >= 0 && off+length <= len(store) {
					want, wantCode = store[off:off+length], impl.OK
				}
				if code != wantCode || breaks != breaksIn(want) {
					t.Errorf("%v at %d, %d: %d breaks, code %d, want %d", store, off, length, breaks, code, wantCode)
				}
				wantSame(t, fmt.Sprintf("%v at %d, %d", store, off, length), got, want)
			}
		}
	}
}

// Promise 2: spans whose ends would leave 64 bits are refused like others.
func TestReadGreatSpans(t *testing.T) {
	store := []int32{10, 97, 10}
	great := []int{math.MinInt, math.MinInt + 1, math.MinInt + 3, math.MinInt32, -1, 0, 1, 3, 4, math.MaxInt32, math.MaxInt - 3,
		math.MaxInt - 1, math.MaxInt}
	for _, off := range great {
		for _, length := range great {
			inside := 0 <= off && off <= 3 && 0 <= length && length <= 3-off
			got, breaks, code := impl.StoreRead(store, impl.Span{Off: off, Len: length})
			if inside && code != impl.OK {
				t.Errorf("at %d, %d: code %d", off, length, code)
			}
			if !inside && (len(got) != 0 || breaks != 0 || code != impl.ErrRange) {
				t.Errorf("at %d, %d: %v, %d breaks, code %d, want nothing and ErrRange", off, length, got, breaks, code)
			}
		}
	}
}

// Promise 2: a store that is read may be longer than MaxStore.
func TestReadLongStores(t *testing.T) {
	for _, length := range []int{impl.MaxStore, impl.MaxStore + 1, 3*impl.MaxStore + 5} {
		store := countingStore(length)
		for _, sp := range []impl.Span{{Off: 0, Len: 0}, {Off: 0, Len: length}, {Off: length, Len: 0},
			{Off: length - 1, Len: 1}, {Off: 1, Len: length - 1}, {Off: length - 100, Len: 100}, {Off: impl.MaxStore - 1, Len: 1}} {
			got, breaks, code := impl.StoreRead(store, sp)
			want := store[sp.Off : sp.Off+sp.Len]
			if code != impl.OK || breaks != breaksIn(want) {
				t.Errorf("%v of %d: %d breaks, code %d", sp, length, breaks, code)
			}
			wantSame(t, fmt.Sprintf("%v of %d", sp, length), got, want)
		}
		for _, sp := range []impl.Span{{Off: 0, Len: length + 1}, {Off: length, Len: 1}, {Off: length + 1, Len: 0}, {Off: -1, Len: 2}} {
			if got, breaks, code := impl.StoreRead(store, sp); len(got) != 0 || breaks != 0 || code != impl.ErrRange {
				t.Errorf("%v of %d: %d runes, %d breaks, code %d, want nothing and ErrRange", sp, length, len(got), breaks, code)
			}
		}
	}
}

// Promise 2 with rule 4 of chapter 1: appending changes no argument, not even behind its end, and shares none.
func TestAppendSharesNothing(t *testing.T) {
	for _, in := range []string{"", "\xC3\xA9\n\x80"} {
		store, wholeStore := spare([]int32{97, 10, 98}, 77)
		b, wholeBytes := spare([]byte(in), 0x80)
		storeBefore, bytesBefore := slices.Clone(wholeStore), slices.Clone(wholeBytes)
		got, _, _ := impl.StoreAppend(store, b)
		wantSame(t, "store behind appending", wholeStore, storeBefore)
		wantSame(t, "bytes behind appending", wholeBytes, bytesBefore)
		overwrite(got)
		wantSame(t, "store behind writing into the answer", wholeStore, storeBefore)
		wantSame(t, "bytes behind writing into the answer", wholeBytes, bytesBefore)
	}
	full, wholeStore := spare(countingStore(impl.MaxStore), 77)
	before := slices.Clone(wholeStore)
	impl.StoreAppend(full, []byte("a"))
	wantSame(t, "store behind a refusal", wholeStore, before)
}

// Promise 2 with rule 4 of chapter 1: reading changes no argument and shares none, whatever part is read.
func TestReadSharesNothing(t *testing.T) {
	for _, sp := range []impl.Span{{Off: 0, Len: 4}, {Off: 0, Len: 2}, {Off: 1, Len: 3}, {Off: 2, Len: 0}, {Off: 4, Len: 0}, {Off: 4, Len: 1}} {
		store, wholeStore := spare([]int32{97, 10, 98, 10}, 77)
		before := slices.Clone(wholeStore)
		got, _, _ := impl.StoreRead(store, sp)
		wantSame(t, "store behind reading", wholeStore, before)
		overwrite(got)
		wantSame(t, "store behind writing into the answer", wholeStore, before)
	}
}
