// Package reader: patterns are read, from the first byte to the last one, up to the first fault.
package reader

import (
	"strings"

	"scribe/api"
	"scribe/tree"
)

// Fault is why a pattern is refused, and at which place; the zero value: it is not.
type Fault struct {
	Code api.Errno
	At   int
}

// reader goes through a text once and checks each thing as soon as it is read: so the first fault that it meets is the one furthest ahead. A false from one of its methods means that the fault is noted.
type reader struct {
	text  string
	at    int // the place of the byte that comes next
	deep  int // how many groups are open
	told  int // how many groups that are told have begun
	fault Fault
}

// Read reads a pattern: its tree and how many groups are told in it, or a fault.
func Read(pattern string) (*tree.Node, int, Fault) {
	if len(pattern) > api.MaxPattern {
		return nil, 0, Fault{Code: api.ErrLong}
	}
	r := &reader{text: pattern}
	root, ok := r.whole()
	if !ok {
		return nil, 0, r.fault
	}
	if root.Size > api.MaxSize {
		return nil, 0, Fault{Code: api.ErrSize}
	}
	return root, r.told, Fault{}
}

func (r *reader) whole() (*tree.Node, bool) {
	root, ok := r.choice()
	if !ok {
		return nil, false
	}
	if !r.atEnd() {
		return nil, r.refuse(api.ErrSyntax, r.at)
	}
	return root, true
}

func (r *reader) choice() (*tree.Node, bool) {
	var rows []*tree.Node
	for {
		row, ok := r.row()
		if !ok {
			return nil, false
		}
		rows = append(rows, row)
		if !r.take('|') {
			return tree.Choice(rows...), true
		}
	}
}

func (r *reader) row() (*tree.Node, bool) {
	var parts []*tree.Node
	for !r.atEnd() && !r.next('|') && !r.next(')') {
		part, ok := r.part()
		if !ok {
			return nil, false
		}
		parts = append(parts, part)
	}
	return tree.Row(parts...), true
}

func (r *reader) part() (*tree.Node, bool) {
	atom, ok := r.atom()
	if !ok {
		return nil, false
	}
	switch {
	case r.take('*'):
		return tree.Turns(atom, 0, tree.Endless), true
	case r.take('+'):
		return tree.Turns(atom, 1, tree.Endless), true
	case r.take('?'):
		return tree.Turns(atom, 0, 1), true
	case r.take('{'):
		least, most, ok := r.bounds()
		if !ok {
			return nil, false
		}
		return tree.Turns(atom, least, most), true
	}
	return atom, true
}

func (r *reader) atom() (*tree.Node, bool) {
	switch {
	case r.next('('):
		return r.group()
	case r.take('['):
		return r.list()
	case r.take('.'):
		return tree.Any(), true
	}
	b, ok := r.byteBut(tree.Signs)
	if !ok {
		return nil, false
	}
	return tree.Byte(b), true
}

func (r *reader) group() (*tree.Node, bool) {
	number, ok := r.groupHead()
	if !ok {
		return nil, false
	}
	r.deep++
	choice, ok := r.choice()
	r.deep--
	if !ok || !r.need(')') {
		return nil, false
	}
	return tree.Group(number, choice), true
}

// groupHead reads what a group begins with, and answers the group's number, 0 if it is not told.
func (r *reader) groupHead() (int, bool) {
	place := r.at
	if r.deep >= api.MaxDeep {
		return 0, r.refuse(api.ErrDeep, place)
	}
	r.at++
	if r.take('?') {
		return 0, r.need(':')
	}
	if r.told >= api.MaxGroups {
		return 0, r.refuse(api.ErrGroups, place)
	}
	r.told++
	return r.told, true
}

func (r *reader) atEnd() bool {
	return r.at == len(r.text)
}

func (r *reader) next(b byte) bool {
	return !r.atEnd() && r.text[r.at] == b
}

// take goes on behind the byte, if it comes next.
func (r *reader) take(b byte) bool {
	if !r.next(b) {
		return false
	}
	r.at++
	return true
}

// need is take, where nothing else can stand.
func (r *reader) need(b byte) bool {
	return r.take(b) || r.refuse(api.ErrSyntax, r.at)
}

// refuse notes the fault. It answers false, to be handed on.
func (r *reader) refuse(code api.Errno, at int) bool {
	r.fault = Fault{Code: code, At: at}
	return false
}

// byteBut reads an escape, or a byte that is none of the signs.
func (r *reader) byteBut(signs string) (byte, bool) {
	if r.take('\\') {
		return r.escaped()
	}
	if r.atEnd() || strings.IndexByte(signs, r.text[r.at]) >= 0 {
		return 0, r.refuse(api.ErrSyntax, r.at)
	}
	r.at++
	return r.text[r.at-1], true
}
