package scribe_test

import (
	"slices"
	"strconv"
	"strings"

	"scribe/api"
)

// part is where a group is, once.
type part struct{ number, from, to int }

// rule is a thing of a pattern, with the document's words on what it matches. Every cut is tried, and nothing is kept in mind: it is for short texts.
type rule interface {
	match(text string, from, to int) ([]part, bool)
}

type (
	ruleByte   func(b byte) bool
	ruleRow    []rule
	ruleChoice []rule
	ruleGroup  struct {
		number int
		inner  rule
	}
	ruleTurns struct {
		atom        rule
		least, most int
	}
)

// noEnd is more turns than any text has bytes.
const noEnd = 1000

func (r ruleByte) match(text string, from, to int) ([]part, bool) {
	return nil, to == from+1 && r(text[from])
}

func (r ruleRow) match(text string, from, to int) ([]part, bool) {
	if len(r) == 0 {
		return nil, from == to
	}
	return cut(r[0], r[1:], text, from, from, to)
}

func (r ruleChoice) match(text string, from, to int) ([]part, bool) {
	for _, row := range r {
		if parts, ok := row.match(text, from, to); ok {
			return parts, true
		}
	}
	return nil, false
}

func (r ruleGroup) match(text string, from, to int) ([]part, bool) {
	parts, ok := r.inner.match(text, from, to)
	if ok && r.number > 0 {
		parts = append(parts, part{r.number, from, to})
	}
	return parts, ok
}

func (r ruleTurns) match(text string, from, to int) ([]part, bool) {
	switch {
	case r.least > 0:
		return cut(r.atom, ruleTurns{r.atom, r.least - 1, r.most - 1}, text, from, from, to)
	case from == to:
		return nil, true
	case r.most > 0:
		return cut(r.atom, ruleTurns{r.atom, 0, r.most - 1}, text, from, from+1, to)
	}
	return nil, false
}

// cut makes the first piece as long as it can be; it ends at least at a place.
func cut(first, rest rule, text string, from, least, to int) ([]part, bool) {
	for end := to; end >= least; end-- {
		if parts, ok := first.match(text, from, end); ok {
			if others, ok := rest.match(text, end, to); ok {
				return slices.Concat(parts, others), true
			}
		}
	}
	return nil, false
}

// ruleReader reads patterns that are known to be right.
type ruleReader struct {
	text string
	told int
}

func (r *ruleReader) choice() rule {
	rows := ruleChoice{r.row()}
	for r.take("|") {
		rows = append(rows, r.row())
	}
	return rows
}

func (r *ruleReader) row() rule {
	row := ruleRow{}
	for r.text != "" && r.text[0] != '|' && r.text[0] != ')' {
		row = append(row, r.counted(r.atom()))
	}
	return row
}

func (r *ruleReader) atom() rule {
	switch {
	case r.take("(?:"):
		return r.group(0)
	case r.take("("):
		r.told++
		return r.group(r.told)
	case r.take("["):
		return r.list()
	case r.take("."):
		return ruleByte(func(b byte) bool { return b != 10 })
	}
	only := r.end()
	return ruleByte(func(b byte) bool { return b == only })
}

func (r *ruleReader) group(number int) rule {
	inner := r.choice()
	r.take(")")
	return ruleGroup{number, inner}
}

func (r *ruleReader) list() rule {
	not := r.take("^")
	var in [256]bool
	for !r.take("]") {
		first := r.end()
		last := first
		if r.take("-") {
			last = r.end()
		}
		for b := int(first); b <= int(last); b++ {
			in[b] = true
		}
	}
	return ruleByte(func(b byte) bool { return in[b] != not })
}

func (r *ruleReader) end() byte {
	length := 1
	switch {
	case strings.HasPrefix(r.text, `\x`):
		length = 4
	case strings.HasPrefix(r.text, `\`):
		length = 2
	}
	b := endByte(r.text[:length])
	r.text = r.text[length:]
	return b
}

func (r *ruleReader) counted(atom rule) rule {
	switch {
	case r.take("*"):
		return ruleTurns{atom, 0, noEnd}
	case r.take("+"):
		return ruleTurns{atom, 1, noEnd}
	case r.take("?"):
		return ruleTurns{atom, 0, 1}
	case r.take("{"):
		count, behind, _ := strings.Cut(r.text, "}")
		r.text = behind
		first, second, two := strings.Cut(count, ",")
		least, _ := strconv.Atoi(first)
		most, err := strconv.Atoi(second)
		if !two {
			most = least
		} else if err != nil {
			most = noEnd
		}
		return ruleTurns{atom, least, most}
	}
	return atom
}

func (r *ruleReader) take(s string) bool {
	rest, ok := strings.CutPrefix(r.text, s)
	r.text = rest
	return ok
}

// ruled is a whole pattern.
type ruled struct {
	rule
	told int
}

func ruledOf(pattern string) ruled {
	r := ruleReader{text: pattern}
	root := r.choice()
	return ruled{root, r.told}
}

// spans is what must be told, if the pattern is matched with the text's first bytes.
func (r ruled) spans(text string, to int) []api.Span {
	parts, ok := r.match(text, 0, to)
	if !ok {
		return nil
	}
	spans := slices.Repeat([]api.Span{{From: -1, To: -1}}, r.told+1)
	for _, p := range append(parts, part{0, 0, to}) {
		spans[p.number] = api.Span{From: p.from, To: p.to}
	}
	return spans
}

func (r ruled) longest(text string) (int, []api.Span) {
	for to := len(text); to >= 0; to-- {
		if spans := r.spans(text, to); spans != nil {
			return to, spans
		}
	}
	return -1, nil
}
