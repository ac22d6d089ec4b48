// Package tree: what a pattern is, once it is read: nodes, put together from the leaves up.
package tree

import (
	"slices"

	"scribe/api"
)

// Signs are the bytes that stand for themselves only behind a backslash.
const Signs = `\()[]{}*+?|.`

// ListSigns are the bytes that stand for themselves in a list only behind a backslash.
const ListSigns = Signs + "-^"

// Endless is the Most of a count that has no upper end.
const Endless = -1

// tooLarge stands for all sizes above MaxSize, as counts within counts would outgrow an int.
const tooLarge = api.MaxSize + 1

// Kind is what a node is.
type Kind int

const (
	KindByte Kind = iota
	KindAny
	KindList
	KindGroup
	KindTurns
	KindRow
	KindChoice
)

// Node is a part of a pattern. Which fields have a meaning hangs on its kind.
type Node struct {
	Kind  Kind
	Size  int     // of all kinds; exact up to MaxSize
	Parts []*Node // of a row, a choice; the only one of a group, of turns

	Byte        byte // of a byte
	Set         Set  // of a list: the bytes of its items
	Not         bool // of a list: it stands for the bytes that are not in Set
	Number      int  // of a group: 0, if it is not told
	Least, Most int  // of turns
}

// Byte is the atom for one byte.
func Byte(b byte) *Node {
	return &Node{Kind: KindByte, Size: 1, Byte: b}
}

// Any is the atom for any byte but 10.
func Any() *Node {
	return &Node{Kind: KindAny, Size: 1}
}

// List is the atom for a byte of the set, or, with not, for one of no item.
func List(set Set, not bool) *Node {
	return &Node{Kind: KindList, Size: 1, Set: set, Not: not}
}

// Group is a choice in brackets; the number 0 is that of all groups that are not told.
func Group(number int, choice *Node) *Node {
	return &Node{Kind: KindGroup, Size: max(choice.Size, 1), Parts: []*Node{choice}, Number: number}
}

// Turns is an atom with a count.
func Turns(atom *Node, least, most int) *Node {
	times := most
	if most == Endless {
		times = max(least, 1)
	}
	size := min(atom.Size*times, tooLarge)
	return &Node{Kind: KindTurns, Size: size, Parts: []*Node{atom}, Least: least, Most: most}
}

// Row is what matches piece by piece: atoms, with or without counts.
func Row(parts ...*Node) *Node {
	return &Node{Kind: KindRow, Size: sizeOf(parts...), Parts: slices.Clone(parts)}
}

// Choice is what matches as one of its rows does.
func Choice(rows ...*Node) *Node {
	return &Node{Kind: KindChoice, Size: sizeOf(rows...), Parts: slices.Clone(rows)}
}

func sizeOf(nodes ...*Node) int {
	size := 0
	for _, n := range nodes {
		size = min(size+n.Size, tooLarge)
	}
	return size
}
