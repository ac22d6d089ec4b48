// Package scribe: patterns that take records apart: see DOC.md.
package scribe

import (
	"scribe/api"
	"scribe/cutter"
	"scribe/matcher"
	"scribe/printer"
	"scribe/reader"
	"scribe/tree"
)

// Pattern is one that was read.
type Pattern struct {
	root *tree.Node
	told int
}

// Stream cuts bytes into records.
type Stream struct {
	// cutter is nil when the stream is closed, so that nothing of it is kept.
	cutter *cutter.Cutter
}

// Print reads a pattern, and prints it (P3).
func Print(pattern string) (string, api.Errno, int) {
	root, _, fault := reader.Read(pattern)
	if fault.Code != api.OK {
		return "", fault.Code, fault.At
	}
	return printer.Print(root), api.OK, 0
}

// Compile reads a pattern (P4).
func Compile(pattern string) (*Pattern, api.Errno, int) {
	root, told, fault := reader.Read(pattern)
	if fault.Code != api.OK {
		return nil, fault.Code, fault.At
	}
	return &Pattern{root: root, told: told}, api.OK, 0
}

// Groups tells how many groups are told (P4).
func (p *Pattern) Groups() (int, api.Errno) {
	if p == nil {
		return 0, api.ErrNil
	}
	return p.told, api.OK
}

// Match matches a whole text (P5).
func (p *Pattern) Match(text string) ([]api.Span, api.Errno) {
	if code := p.refuses(text); code != api.OK {
		return nil, code
	}
	return p.whole(text), api.OK
}

// Longest matches the longest beginning of a text that it can (P6).
func (p *Pattern) Longest(text string) (int, []api.Span, api.Errno) {
	if code := p.refuses(text); code != api.OK {
		return 0, nil, code
	}
	length, spans := matcher.Longest(p.root, p.told, text)
	return length, spans, api.OK
}

// refuses tells why a text can't be matched at all; OK, if it can.
func (p *Pattern) refuses(text string) api.Errno {
	switch {
	case p == nil:
		return api.ErrNil
	case len(text) > api.MaxText:
		return api.ErrLong
	}
	return api.OK
}

// whole matches a whole text that is not refused.
func (p *Pattern) whole(text string) []api.Span {
	return matcher.Whole(p.root, p.told, text)
}

// Open opens a stream (P7).
func (p *Pattern) Open(limit int) (*Stream, api.Errno) {
	switch {
	case p == nil:
		return nil, api.ErrNil
	case limit < 0 || limit > api.MaxText:
		return nil, api.ErrArg
	}
	return &Stream{cutter: cutter.New(limit, p.whole)}, api.OK
}

// Feed takes bytes (P7).
func (s *Stream) Feed(b []byte) ([]api.Record, api.Errno) {
	if code := s.refuses(); code != api.OK {
		return nil, code
	}
	return s.cutter.Feed(b), api.OK
}

// Close ends a stream (P7).
func (s *Stream) Close() ([]api.Record, api.Errno) {
	if code := s.refuses(); code != api.OK {
		return nil, code
	}
	records := s.cutter.Close()
	s.cutter = nil
	return records, api.OK
}

// refuses tells why a stream goes no further; OK, if it does.
func (s *Stream) refuses() api.Errno {
	switch {
	case s == nil:
		return api.ErrNil
	case s.cutter == nil:
		return api.ErrClosed
	}
	return api.OK
}

// Held tells how many bytes a stream holds (P7).
func (s *Stream) Held() (int, api.Errno) {
	switch {
	case s == nil:
		return 0, api.ErrNil
	case s.cutter == nil:
		return 0, api.OK
	}
	return s.cutter.Held(), api.OK
}
