package tests

import (
	"slices"
	"testing"
)

// spare gives a copy of a list that has room behind its end, all of it filled with a value that no test uses. whole is
// the copy together with that room: a call that writes behind an argument's end changes it.
func spare[T any](list []T, filler T) (part, whole []T) {
	whole = slices.Clone(list)
	for range 8 {
		whole = append(whole, filler)
	}
	return whole[:len(list)], whole
}

// wantSame holds two lists against each other; nil and an empty list are the same.
func wantSame[T comparable](t *testing.T, what string, got, want []T) {
	t.Helper()
	if !slices.Equal(got, want) {
		t.Errorf("%s: %v, want %v", what, short(got), short(want))
	}
}

// short keeps a failing test of a full store from printing all of it.
func short[T any](list []T) []T {
	return list[:min(len(list), 40)]
}

// overwrite changes every element of a list, and those in the room behind its end.
func overwrite[T int32 | byte](list []T) {
	list = list[:cap(list)]
	for k := range list {
		list[k] = ^list[k]
	}
}
