package impl

import (
	"errors"
	"slices"
	"strconv"
	"unicode/utf8"
)

// Codes of all layers, see chapter 1.
const (
	OK         = 0
	ErrBad     = 1
	ErrRange   = 2
	ErrPlace   = 3
	ErrUnknown = 4
	ErrTaken   = 5
	ErrEmpty   = 6
	ErrNested  = 7
	ErrNoGroup = 8
	ErrOpen    = 9
	ErrFull    = 10
	ErrSlot    = 11
	ErrValue   = 12
	ErrKind    = 13
	ErrLarge   = 14
	ErrWord    = 15
	ErrArgs    = 16
	ErrNumber  = 17
	ErrHex     = 18
)

// Limits and the two special runes, see chapter 1.
const (
	MaxText     = 8192
	MaxStore    = 220000
	Newline     = 10
	Replacement = 65533
)

// Span is a stretch of a store.
type Span struct {
	Off, Len int
}

// DecodeText reads UTF-8, see chapter 2.
func DecodeText(b []byte) []int32 {
	text := make([]int32, 0, len(b))
	for at := 0; at < len(b); {
		r, size := readRune(b[at:])
		text = append(text, r)
		at += size
	}
	return text
}

// EncodeText writes UTF-8, see chapter 2.
func EncodeText(r []int32) []byte {
	b := make([]byte, 0, len(r))
	for _, c := range r {
		// The library's rule for runes that are no characters is the document's, unlike its rule for faulty bytes.
		b = utf8.AppendRune(b, c)
	}
	return b
}

// StoreAppend puts decoded bytes behind a store, see chapter 2.
func StoreAppend(store []int32, b []byte) ([]int32, Span, int) {
	grown, sp, err := appendRunes(store, DecodeText(b))
	if err != nil {
		return nil, Span{}, codeOf(err)
	}
	return grown, sp, OK
}

// StoreRead reads a span of a store, see chapter 2.
func StoreRead(store []int32, sp Span) ([]int32, int, int) {
	text, err := readSpan(store, sp)
	if err != nil {
		return nil, 0, codeOf(err)
	}
	return text, countBreaks(text), OK
}

// fault is why a call is refused: one of the codes other than OK.
type fault int

func (f fault) Error() string { return "fault " + strconv.Itoa(int(f)) }

// refused is a fault on its way up, with the work in which it was met.
type refused struct {
	work string
	err  error
}

func (r refused) Error() string { return r.work + ": " + r.err.Error() }

func (r refused) Unwrap() error { return r.err }

// codeOf turns an error into the number that a face answers. No error inside is without a fault, so what holds none is
// no error at all.
func codeOf(err error) int {
	var f fault
	if errors.As(err, &f) {
		return int(f)
	}
	return OK
}

// integer is the constraint of all that bounds are checked for.
type integer interface {
	~int | ~int8 | ~int16 | ~int32 | ~int64 | ~uint | ~uint8 | ~uint16 | ~uint32 | ~uint64 | ~uintptr
}

// within tells if v is from low to high.
func within[T integer](v, low, high T) bool {
	return low <= v && v <= high
}

// checkRoom refuses what would pass a limit. Neither have nor more may be negative. The limit's rest is compared, not
// the sum, because the sum may wrap.
func checkRoom[T integer](have, more, limit T) error {
	if have > limit || more > limit-have {
		return fault(ErrFull)
	}
	return nil
}

// checkSpan refuses a span that isn't inside of a store of this length. What is left behind Off is compared, not the
// span's end, because the end may wrap.
func checkSpan(sp Span, length int) error {
	if !within(sp.Off, 0, length) || !within(sp.Len, 0, length-sp.Off) {
		return fault(ErrRange)
	}
	return nil
}

// form is a row of chapter 2's table. Third and fourth bytes need no ends of their own, theirs are the same in all rows.
type form struct {
	first, last byte // ends of the first byte
	low, high   byte // ends of the second byte
	size        int  // bytes in the whole sequence
	mask        byte // what the first byte gives to the character
}

var forms = [...]form{
	{0x00, 0x7F, 0x00, 0x00, 1, 0x7F},
	{0xC2, 0xDF, 0x80, 0xBF, 2, 0x1F},
	{0xE0, 0xE0, 0xA0, 0xBF, 3, 0x0F},
	{0xE1, 0xEC, 0x80, 0xBF, 3, 0x0F},
	{0xED, 0xED, 0x80, 0x9F, 3, 0x0F},
	{0xEE, 0xEF, 0x80, 0xBF, 3, 0x0F},
	{0xF0, 0xF0, 0x90, 0xBF, 4, 0x07},
	{0xF1, 0xF3, 0x80, 0xBF, 4, 0x07},
	{0xF4, 0xF4, 0x80, 0x8F, 4, 0x07},
}

// formOf finds the only form that a sequence with this first byte can have.
func formOf(first byte) (form, bool) {
	for _, f := range forms {
		if within(first, f.first, f.last) {
			return f, true
		}
	}
	return form{}, false
}

// matched counts the bytes of b, the first of which fits already, that begin a sequence of this form.
func (f form) matched(b []byte) int {
	low, high := f.low, f.high
	for n := 1; n < f.size; n++ {
		if n == len(b) || !within(b[n], low, high) {
			return n
		}
		low, high = 0x80, 0xBF
	}
	return f.size
}

// character puts together what the bytes of a whole sequence give.
func (f form) character(b []byte) rune {
	r := rune(b[0] & f.mask)
	for _, c := range b[1:f.size] {
		r = r<<6 | rune(c&0x3F)
	}
	return r
}

// readRune reads one rune from bytes that aren't empty, and tells how many of them it took.
func readRune(b []byte) (rune, int) {
	f, ok := formOf(b[0])
	if !ok {
		return Replacement, 1
	}
	n := f.matched(b)
	if n < f.size {
		return Replacement, n
	}
	return f.character(b), n
}

// appendRunes puts a text behind a store, in new memory: the old store may have room at its end that others use.
func appendRunes(store, text []int32) ([]int32, Span, error) {
	if err := checkRoom(len(store), len(text), MaxStore); err != nil {
		return nil, Span{}, refused{"appending to a store", err}
	}
	return slices.Concat(store, text), Span{Off: len(store), Len: len(text)}, nil
}

// readSpan copies the runes of a span.
func readSpan(store []int32, sp Span) ([]int32, error) {
	if err := checkSpan(sp, len(store)); err != nil {
		return nil, refused{"reading a span", err}
	}
	return append([]int32(nil), store[sp.Off:sp.Off+sp.Len]...), nil
}

// countBreaks counts the breaks in a text.
func countBreaks(text []int32) int {
	n := 0
	for _, r := range text {
		if r == Newline {
			n++
		}
	}
	return n
}
