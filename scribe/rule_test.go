package scribe_test

import (
	"slices"
	"strconv"
	"strings"

	"scribe/api"
)

// part is where a group is, once.
type part struct{ number, from, to int }

// rule is a thing of a pattern, with the document's words on what it matches: the parts of a text one by one, each from a place to another one.
type rule interface {
	match(t *trial, from, to int) ([]part, bool)
}

type (
	ruleByte struct {
		fits func(b byte) bool
	}
	ruleChoice struct {
		rows []rule
	}
	ruleGroup struct {
		number int
		inner  rule
	}
	ruleEmpty struct{}
	ruleRow   struct {
		first, rest rule
	}
	// ruleTurns has no next ones, if there can't be more turns.
	ruleTurns struct {
		atom, next rule
		least      int
	}
)

// trial is a text, and what is known of its parts.
type trial struct {
	text  string
	known map[asked]outcome
}

type asked struct {
	rule
	from, to int
}

type outcome struct {
	parts []part
	ok    bool
}

func (t *trial) match(r rule, from, to int) ([]part, bool) {
	key := asked{r, from, to}
	found, ok := t.known[key]
	if !ok {
		found.parts, found.ok = r.match(t, from, to)
		t.known[key] = found
	}
	return found.parts, found.ok
}

// cut makes the first piece as long as it can be; it ends at least at a place.
func (t *trial) cut(first, rest rule, from, least, to int) ([]part, bool) {
	for end := to; end >= least; end-- {
		if parts, ok := t.match(first, from, end); ok {
			if others, ok := t.match(rest, end, to); ok {
				return slices.Concat(parts, others), true
			}
		}
	}
	return nil, false
}

func (r *ruleByte) match(t *trial, from, to int) ([]part, bool) {
	return nil, to == from+1 && r.fits(t.text[from])
}

func (r *ruleEmpty) match(t *trial, from, to int) ([]part, bool) {
	return nil, from == to
}

func (r *ruleRow) match(t *trial, from, to int) ([]part, bool) {
	return t.cut(r.first, r.rest, from, from, to)
}

func (r *ruleChoice) match(t *trial, from, to int) ([]part, bool) {
	for _, row := range r.rows {
		if parts, ok := t.match(row, from, to); ok {
			return parts, true
		}
	}
	return nil, false
}

func (r *ruleGroup) match(t *trial, from, to int) ([]part, bool) {
	parts, ok := t.match(r.inner, from, to)
	if ok && r.number > 0 {
		parts = slices.Concat(parts, []part{{r.number, from, to}})
	}
	return parts, ok
}

func (r *ruleTurns) match(t *trial, from, to int) ([]part, bool) {
	switch {
	case r.least > 0:
		return t.cut(r.atom, r.next, from, from, to)
	case from == to:
		return nil, true
	case r.next != nil:
		return t.cut(r.atom, r.next, from, from+1, to)
	}
	return nil, false
}

const noEnd = -1

func turnsOf(atom rule, least, most int) *ruleTurns {
	r := &ruleTurns{atom: atom, least: least}
	switch {
	case least == 0 && most == noEnd:
		r.next = r
	case most == noEnd:
		r.next = turnsOf(atom, least-1, noEnd)
	case most > 0:
		r.next = turnsOf(atom, max(least-1, 0), most-1)
	}
	return r
}

// ruleReader reads patterns that are known to be right.
type ruleReader struct {
	text string
	told int
}

func (r *ruleReader) choice() rule {
	rows := []rule{r.row()}
	for r.take("|") {
		rows = append(rows, r.row())
	}
	return &ruleChoice{rows}
}

func (r *ruleReader) row() rule {
	if r.text == "" || r.text[0] == '|' || r.text[0] == ')' {
		return &ruleEmpty{}
	}
	first := r.counted(r.atom())
	return &ruleRow{first, r.row()}
}

func (r *ruleReader) atom() rule {
	switch {
	case r.take("(?:"):
		return r.group(0)
	case r.take("("):
		r.told++
		return r.group(r.told)
	case r.take("["):
		return r.list()
	case r.take("."):
		return &ruleByte{func(b byte) bool { return b != 10 }}
	}
	only := r.end()
	return &ruleByte{func(b byte) bool { return b == only }}
}

func (r *ruleReader) group(number int) rule {
	inner := r.choice()
	r.take(")")
	return &ruleGroup{number, inner}
}

func (r *ruleReader) list() rule {
	not := r.take("^")
	var in [256]bool
	for !r.take("]") {
		first := r.end()
		last := first
		if r.take("-") {
			last = r.end()
		}
		for b := int(first); b <= int(last); b++ {
			in[b] = true
		}
	}
	return &ruleByte{func(b byte) bool { return in[b] != not }}
}

func (r *ruleReader) end() byte {
	length := 1
	switch {
	case strings.HasPrefix(r.text, `\x`):
		length = 4
	case strings.HasPrefix(r.text, `\`):
		length = 2
	}
	b := endByte(r.text[:length])
	r.text = r.text[length:]
	return b
}

func (r *ruleReader) counted(atom rule) rule {
	switch {
	case r.take("*"):
		return turnsOf(atom, 0, noEnd)
	case r.take("+"):
		return turnsOf(atom, 1, noEnd)
	case r.take("?"):
		return turnsOf(atom, 0, 1)
	case r.take("{"):
		count, behind, _ := strings.Cut(r.text, "}")
		r.text = behind
		first, second, two := strings.Cut(count, ",")
		least, _ := strconv.Atoi(first)
		most, err := strconv.Atoi(second)
		if !two {
			most = least
		} else if err != nil {
			most = noEnd
		}
		return turnsOf(atom, least, most)
	}
	return atom
}

func (r *ruleReader) take(s string) bool {
	rest, ok := strings.CutPrefix(r.text, s)
	r.text = rest
	return ok
}

// ruled is a whole pattern.
type ruled struct {
	root rule
	told int
}

func ruledOf(pattern string) ruled {
	r := ruleReader{text: pattern}
	root := r.choice()
	return ruled{root, r.told}
}

// spans is what must be told, if the pattern is matched with the text's first bytes.
func (r ruled) spans(t *trial, to int) []api.Span {
	parts, ok := t.match(r.root, 0, to)
	if !ok {
		return nil
	}
	spans := slices.Repeat([]api.Span{{From: -1, To: -1}}, r.told+1)
	spans[0] = api.Span{From: 0, To: to}
	for _, p := range parts {
		spans[p.number] = api.Span{From: p.from, To: p.to}
	}
	return spans
}

func (r ruled) longest(t *trial) (int, []api.Span) {
	for to := len(t.text); to >= 0; to-- {
		if spans := r.spans(t, to); spans != nil {
			return to, spans
		}
	}
	return -1, nil
}
