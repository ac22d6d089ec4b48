package matcher

import (
	"scribe/memory"
	"scribe/tree"
)

// spot is what is still to be matched from a place on: a node, but for the parts (of a row) or turns that are done.
type spot struct {
	node *tree.Node
	done int
	from int
}

// next is the spot behind one more part or turn that ends there. Turns without end are counted no further than the least ones, so that those beyond are at few spots, and what is known of these is of use again.
func (at spot) next(end int) spot {
	done := at.done + 1
	if at.node.Most == tree.Endless {
		done = min(done, at.node.Least)
	}
	return spot{node: at.node, done: done, from: end}
}

// finders holds, for each kind of node, what finds the places at which such a node may end.
type finders [tree.KindChoice + 1]func(*search, spot) places

// search finds out where parts of a pattern may end in a text. Each spot is gone through once only, in however many ways it is come to: so the work is bounded by the number of spots and places, not by that of the ways.
type search struct {
	text  string
	find  finders
	known memory.Memory[spot, places]
}

func newSearch(text string) *search {
	return &search{text: text, find: finders{
		tree.KindByte:   (*search).byteEnds,
		tree.KindAny:    (*search).anyEnds,
		tree.KindList:   (*search).listEnds,
		tree.KindGroup:  (*search).groupEnds,
		tree.KindTurns:  (*search).turnsEnds,
		tree.KindRow:    (*search).rowEnds,
		tree.KindChoice: (*search).choiceEnds,
	}}
}

// ends is all places to which the spot may be matched.
func (s *search) ends(at spot) places {
	if known, ok := s.known.Ask(at); ok {
		return known
	}
	found := s.find[at.node.Kind](s, at)
	s.known.Keep(at, found)
	return found
}

// behindByte is the place behind the spot's byte, if there is a byte and it fits.
func (s *search) behindByte(at spot, fits func(b byte) bool) places {
	var ends places
	if at.from < len(s.text) && fits(s.text[at.from]) {
		ends.add(at.from + 1)
	}
	return ends
}

func (s *search) byteEnds(at spot) places {
	return s.behindByte(at, func(b byte) bool { return b == at.node.Byte })
}

func (s *search) anyEnds(at spot) places {
	return s.behindByte(at, func(b byte) bool { return b != '\n' })
}

func (s *search) listEnds(at spot) places {
	return s.behindByte(at, func(b byte) bool { return at.node.Set.Has(b) != at.node.Not })
}

func (s *search) groupEnds(at spot) places {
	return s.ends(spot{node: at.node.Parts[0], from: at.from})
}

func (s *search) choiceEnds(at spot) places {
	var ends places
	for _, row := range at.node.Parts {
		ends.addAll(s.ends(spot{node: row, from: at.from}))
	}
	return ends
}

func (s *search) rowEnds(at spot) places {
	if at.done < len(at.node.Parts) {
		return s.endsBehind(at, at.node.Parts[at.done], at.from)
	}
	var ends places
	ends.add(at.from)
	return ends
}

func (s *search) turnsEnds(at spot) places {
	atom := at.node.Parts[0]
	if at.done < at.node.Least {
		return s.endsBehind(at, atom, at.from)
	}
	var ends places
	if at.done != at.node.Most {
		// Beyond the least ones no turn is empty.
		ends = s.endsBehind(at, atom, at.from+1)
	}
	ends.add(at.from)
	return ends
}

// endsBehind is all places to which the spot may be matched with a first piece that the part matches, and that ends at least at a place.
func (s *search) endsBehind(at spot, part *tree.Node, least int) places {
	var ends places
	first := s.ends(spot{node: part, from: at.from})
	for end := least; end <= len(s.text); end++ {
		if first.has(end) {
			ends.addAll(s.ends(at.next(end)))
		}
	}
	return ends
}
