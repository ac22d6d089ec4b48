package matcher

import (
	"slices"
	"strings"
	"testing"

	"scribe/api"
	"scribe/tree"
)

func row(parts ...*tree.Node) *tree.Node {
	return tree.Choice(tree.Row(parts...))
}

func TestPlaces(t *testing.T) {
	for at := range api.MaxText + 1 {
		var one, both places
		one.add(at)
		both.add(50)
		both.addAll(one)
		for other := range api.MaxText + 1 {
			if one.has(other) != (other == at) {
				t.Errorf("with %d alone: %d is told to be %v", at, other, one.has(other))
			}
			if both.has(other) != (other == at || other == 50) {
				t.Errorf("with %d and 50: %d is told to be %v", at, other, both.has(other))
			}
		}
	}
}

func TestWhole(t *testing.T) {
	root := row(tree.Turns(tree.Group(1, row(tree.Any())), 1, tree.Endless), tree.Group(2, row(tree.Byte('b'))))
	want := []api.Span{{From: 0, To: 3}, {From: 1, To: 2}, {From: 2, To: 3}}
	if got := Whole(root, 2, "abb"); !slices.Equal(got, want) || cap(got) != len(got) {
		t.Errorf("%v with room for %d, want %v", got, cap(got), want)
	}
	if got := Whole(root, 2, "abc"); got != nil {
		t.Errorf("%v, want nil", got)
	}
}

func TestLongest(t *testing.T) {
	root := row(tree.Turns(tree.Group(1, row(tree.Byte('a'), tree.Byte('b'))), 1, 2))
	want := []api.Span{{From: 0, To: 4}, {From: 2, To: 4}}
	if length, got := Longest(root, 1, "abababa"); length != 4 || !slices.Equal(got, want) {
		t.Errorf("%d, %v, want 4, %v", length, got, want)
	}
	if length, got := Longest(root, 1, "ba"); length != -1 || got != nil {
		t.Errorf("%d, %v, want -1 and nil", length, got)
	}
}

// Without end, turns beyond the least ones are at spots that differ in their places only.
func TestSpotsOfEndlessTurns(t *testing.T) {
	turns := tree.Turns(tree.Byte('a'), 2, tree.Endless)
	at := spot{node: turns}
	for i := range 5 {
		at = at.next(i)
		if want := (spot{node: turns, done: min(i+1, 2), from: i}); at != want {
			t.Errorf("turn %d: %v, want %v", i, at, want)
		}
	}
	bounded := spot{node: tree.Turns(tree.Byte('a'), 2, 9)}
	if at := bounded.next(1).next(2).next(3); at.done != 3 || at.from != 3 {
		t.Errorf("turns with an end: %v", at)
	}
}

// A spot is found out once only: else the number of ways would count, which doubles here with each byte.
func TestSpotsAreFoundOnce(t *testing.T) {
	dots := tree.Turns(tree.Any(), 0, tree.Endless)
	root := row(tree.Turns(tree.Group(0, row(dots)), 0, tree.Endless), tree.Byte('!'))
	s := newSearch(strings.Repeat("a", api.MaxText))
	calls := 0
	plain := s.find[tree.KindAny]
	s.find[tree.KindAny] = func(s *search, at spot) places {
		calls++
		return plain(s, at)
	}
	s.ends(spot{node: root})
	if calls != api.MaxText+1 {
		t.Errorf("%d bytes were looked at", calls)
	}
}
