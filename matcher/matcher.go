// Package matcher: whether a pattern's tree matches a text, and where its groups are then.
package matcher

import (
	"scribe/api"
	"scribe/tree"
)

// groups is where the groups are, by their numbers.
type groups []api.Span

func nowhere(told int) groups {
	g := make(groups, told+1)
	for i := range g {
		g[i] = api.Span{From: -1, To: -1}
	}
	return g
}

// put is called in the order of the parts, so that of several ones the last stays.
func (g groups) put(number, from, to int) {
	g[number] = api.Span{From: from, To: to}
}

// Whole matches the whole text, of MaxText bytes at most: where the groups are, of which so many are told; nil, if the text is not matched.
func Whole(root *tree.Node, told int, text string) []api.Span {
	s := newSearch(text)
	if ends := s.ends(spot{node: root}); !ends.has(len(text)) {
		return nil
	}
	return s.groupsUpTo(root, told, len(text))
}

// Longest matches the longest beginning of the text that it can: its length, and where the groups are; -1 and nil, if there is none.
func Longest(root *tree.Node, told int, text string) (int, []api.Span) {
	s := newSearch(text)
	ends := s.ends(spot{node: root})
	for end := len(text); end >= 0; end-- {
		if ends.has(end) {
			return end, s.groupsUpTo(root, told, end)
		}
	}
	return -1, nil
}

func (s *search) groupsUpTo(root *tree.Node, told, to int) []api.Span {
	g := nowhere(told)
	w := newWalk(s, g.put)
	w.found(0, 0, to)
	w.through(root, 0, to)
	return g
}
