// Package cutter: a stream of bytes, in whatever pieces they come, cut into records.
package cutter

import (
	"bytes"

	"scribe/api"
)

// end stands behind a record, and belongs to none.
const end = '\n'

// Cutter cuts one stream.
type Cutter struct {
	limit int
	match func(text string) []api.Span
	// The record that is not over: its number, where it begins, how long it is so far, and its first bytes, no more than limit.
	number, from, length int
	held                 []byte
}

// New makes a cutter that takes records of at most limit bytes apart by match, which answers new memory, and nil of a text that is not matched.
func New(limit int, match func(text string) []api.Span) *Cutter {
	return &Cutter{limit: limit, match: match, held: make([]byte, 0, limit)}
}

// Feed takes bytes, and tells the records that are over with them.
func (c *Cutter) Feed(b []byte) []api.Record {
	var records []api.Record
	for {
		at := bytes.IndexByte(b, end)
		if at < 0 {
			c.take(b)
			return records
		}
		c.take(b[:at])
		records = append(records, c.over())
		b = b[at+1:]
	}
}

// Close tells the record that is over with the stream, if there is one.
func (c *Cutter) Close() []api.Record {
	if c.length == 0 {
		return nil
	}
	return []api.Record{c.over()}
}

// Held tells how many bytes are held.
func (c *Cutter) Held() int { return len(c.held) }

// take only counts what goes beyond the limit: such a record is not matched any more.
func (c *Cutter) take(piece []byte) {
	room := c.limit - len(c.held)
	c.held = append(c.held, piece[:min(room, len(piece))]...)
	c.length += len(piece)
}

// over ends the record, and begins the next one behind the byte that ended it.
func (c *Cutter) over() api.Record {
	r := api.Record{Number: c.number, From: c.from, Len: c.length}
	r.Code, r.Spans = c.apart()
	c.number++
	c.from += c.length + 1
	c.length = 0
	c.held = c.held[:0]
	return r
}

func (c *Cutter) apart() (int, []api.Span) {
	if c.length > c.limit {
		return api.TooLong, nil
	}
	spans := c.match(string(c.held))
	if spans == nil {
		return api.Other, nil
	}
	move(spans, c.from)
	return api.Matched, spans
}

// move leaves spans that are nowhere as they are.
func move(spans []api.Span, by int) {
	for i, s := range spans {
		if s.From >= 0 {
			spans[i] = api.Span{From: s.From + by, To: s.To + by}
		}
	}
}
