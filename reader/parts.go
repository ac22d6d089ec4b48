package reader

import (
	"strings"

	"scribe/api"
	"scribe/tree"
)

// bounds reads a count in braces, behind its first one.
func (r *reader) bounds() (least, most int, ok bool) {
	least, ok = r.number(0)
	if !ok {
		return 0, 0, false
	}
	most = least
	if r.take(',') {
		most, ok = r.upper(least)
		if !ok {
			return 0, 0, false
		}
	}
	return least, most, r.need('}')
}

func (r *reader) upper(least int) (int, bool) {
	if !r.digitNext() {
		return tree.Endless, true
	}
	return r.number(least)
}

// number reads one or two digits; behind a first 0 there is no second one.
func (r *reader) number(least int) (int, bool) {
	place := r.at
	if !r.digitNext() {
		return 0, r.refuse(api.ErrSyntax, place)
	}
	n := r.digit()
	if n > 0 && r.digitNext() {
		n = 10*n + r.digit()
	}
	if n > api.MaxCount || n < least {
		return 0, r.refuse(api.ErrCount, place)
	}
	return n, true
}

func (r *reader) digitNext() bool {
	return !r.atEnd() && '0' <= r.text[r.at] && r.text[r.at] <= '9'
}

func (r *reader) digit() int {
	r.at++
	return int(r.text[r.at-1] - '0')
}

// list reads a list, behind its first bracket.
func (r *reader) list() (*tree.Node, bool) {
	not := r.take('^')
	var set tree.Set
	for {
		first, last, ok := r.item()
		if !ok {
			return nil, false
		}
		set.Add(first, last)
		if r.take(']') {
			return tree.List(set, not), true
		}
	}
}

func (r *reader) item() (first, last byte, ok bool) {
	first, ok = r.byteBut(tree.ListSigns)
	if !ok || !r.take('-') {
		return first, first, ok
	}
	place := r.at
	last, ok = r.byteBut(tree.ListSigns)
	if ok && last < first {
		ok = r.refuse(api.ErrSyntax, place)
	}
	return first, last, ok
}

// escaped reads an escape, behind its backslash.
func (r *reader) escaped() (byte, bool) {
	switch {
	case r.take('n'):
		return '\n', true
	case r.take('t'):
		return '\t', true
	case r.take('x'):
		return r.hexPair()
	}
	if r.atEnd() || strings.IndexByte(tree.ListSigns, r.text[r.at]) < 0 {
		return 0, r.refuse(api.ErrSyntax, r.at)
	}
	r.at++
	return r.text[r.at-1], true
}

func (r *reader) hexPair() (byte, bool) {
	high, ok := r.hexDigit()
	if !ok {
		return 0, false
	}
	low, ok := r.hexDigit()
	return high<<4 | low, ok
}

func (r *reader) hexDigit() (byte, bool) {
	if r.atEnd() {
		return 0, r.refuse(api.ErrSyntax, r.at)
	}
	b := r.text[r.at]
	r.at++
	switch {
	case '0' <= b && b <= '9':
		return b - '0', true
	case 'a' <= b && b <= 'f':
		return b - 'a' + 10, true
	case 'A' <= b && b <= 'F':
		return b - 'A' + 10, true
	}
	return 0, r.refuse(api.ErrSyntax, r.at-1)
}
