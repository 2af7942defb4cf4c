package tests

import (
	"testing"

	"loop.example/s01685/impl"
)

// Chapter 1: the numbers of the codes and of the limits.
func TestCodesAndLimits(t *testing.T) {
	codes := []int{impl.OK, impl.ErrBad, impl.ErrRange, impl.ErrPlace, impl.ErrUnknown, impl.ErrTaken, impl.ErrEmpty,
		impl.ErrNested, impl.ErrNoGroup, impl.ErrOpen, impl.ErrFull, impl.ErrSlot, impl.ErrValue, impl.ErrKind,
		impl.ErrLarge, impl.ErrWord, impl.ErrArgs, impl.ErrNumber, impl.ErrHex}
	for want, got := range codes {
		if got != want {
			t.Errorf("code number %d is %d", want, got)
		}
	}
	for _, c := range []struct {
		name      string
		got, want int
	}{
		{"MaxText", impl.MaxText, 8192},
		{"MaxStore", impl.MaxStore, 220000},
		{"MaxCells", impl.MaxCells, 65536},
		{"MinCells", impl.MinCells, 16},
		{"ChunkRunes", impl.ChunkRunes, 16},
		{"MaxMarks", impl.MaxMarks, 128},
		{"MaxId", impl.MaxId, 1000000000},
		{"MaxImport", impl.MaxImport, 8192},
		{"MaxOps", impl.MaxOps, 10000},
		{"MaxCap", impl.MaxCap, 1000},
		{"MaxSpent", impl.MaxSpent, 200000},
		{"Slots", impl.Slots, 8},
		{"MaxScript", impl.MaxScript, 16384},
		{"Newline", impl.Newline, 10},
		{"Replacement", impl.Replacement, 65533},
	} {
		if c.got != c.want {
			t.Errorf("%s is %d, want %d", c.name, c.got, c.want)
		}
	}
}
