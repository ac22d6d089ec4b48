package matcher

import "scribe/tree"

// steps holds, for each kind of node, what goes through such a node, up to a place to which it matches.
type steps [tree.KindChoice + 1]func(*walk, spot, int)

// walk goes once through what was matched, on the one way that the rule leaves, and hands each group that it comes by to found, in the order of the parts.
type walk struct {
	*search
	step  steps
	found func(number, from, to int)
}

func newWalk(s *search, found func(number, from, to int)) *walk {
	return &walk{search: s, found: found, step: steps{
		tree.KindByte:   (*walk).throughByte,
		tree.KindAny:    (*walk).throughByte,
		tree.KindList:   (*walk).throughByte,
		tree.KindGroup:  (*walk).throughGroup,
		tree.KindTurns:  (*walk).throughTurns,
		tree.KindRow:    (*walk).throughRow,
		tree.KindChoice: (*walk).throughChoice,
	}}
}

// through goes through a node from a place to another one, which the node matches.
func (w *walk) through(node *tree.Node, from, to int) {
	w.step[node.Kind](w, spot{node: node, from: from}, to)
}

// throughByte finds nothing, as there are no groups in a byte.
func (w *walk) throughByte(spot, int) {}

func (w *walk) throughGroup(at spot, to int) {
	if at.node.Number > 0 {
		w.found(at.node.Number, at.from, to)
	}
	w.through(at.node.Parts[0], at.from, to)
}

func (w *walk) throughChoice(at spot, to int) {
	for _, row := range at.node.Parts {
		if ends := w.ends(spot{node: row, from: at.from}); ends.has(to) {
			w.through(row, at.from, to)
			return
		}
	}
}

func (w *walk) throughRow(at spot, to int) {
	for _, part := range at.node.Parts {
		at = w.throughFirst(at, part, to)
	}
}

func (w *walk) throughTurns(at spot, to int) {
	for at.done < at.node.Least || at.from < to {
		at = w.throughFirst(at, at.node.Parts[0], to)
	}
}

// throughFirst goes through the spot's first piece, which the part matches, and answers what comes behind it.
func (w *walk) throughFirst(at spot, part *tree.Node, to int) spot {
	end := w.firstEnd(at, part, to)
	w.through(part, at.from, end)
	return at.next(end)
}

// firstEnd is the end of the longest first piece behind which the rest still matches up to there. If no other one does, the empty piece does, as the whole is known to match.
func (w *walk) firstEnd(at spot, part *tree.Node, to int) int {
	first := w.ends(spot{node: part, from: at.from})
	for end := to; end > at.from; end-- {
		if !first.has(end) {
			continue
		}
		if rest := w.ends(at.next(end)); rest.has(to) {
			return end
		}
	}
	return at.from
}
