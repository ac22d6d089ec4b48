package cutter

import (
	"slices"
	"strings"
	"testing"

	"scribe/api"
)

// seen takes down the texts that are to be matched; those with an x are not.
type seen []string

func (s *seen) match(text string) []api.Span {
	*s = append(*s, text)
	if strings.Contains(text, "x") {
		return nil
	}
	return []api.Span{{From: 0, To: len(text)}, {From: -1, To: -1}}
}

func same(a, b api.Record) bool {
	return a.Number == b.Number && a.From == b.From && a.Len == b.Len && a.Code == b.Code && slices.Equal(a.Spans, b.Spans)
}

func check(t *testing.T, got []api.Record, want ...api.Record) {
	t.Helper()
	if !slices.EqualFunc(got, want, same) {
		t.Errorf("%v, want %v", got, want)
	}
}

func TestFeed(t *testing.T) {
	var texts seen
	c := New(3, texts.match)
	check(t, c.Feed([]byte("a")))
	check(t, c.Feed([]byte("bc\n\nx\nabcd\ny")),
		api.Record{Number: 0, From: 0, Len: 3, Code: api.Matched, Spans: []api.Span{{From: 0, To: 3}, {From: -1, To: -1}}},
		api.Record{Number: 1, From: 4, Len: 0, Code: api.Matched, Spans: []api.Span{{From: 4, To: 4}, {From: -1, To: -1}}},
		api.Record{Number: 2, From: 5, Len: 1, Code: api.Other},
		api.Record{Number: 3, From: 7, Len: 4, Code: api.TooLong})
	check(t, c.Feed(nil))
	if c.Held() != 1 {
		t.Errorf("%d bytes are held, want 1", c.Held())
	}
	check(t, c.Close(), api.Record{Number: 4, From: 12, Len: 1, Code: api.Matched, Spans: []api.Span{{From: 12, To: 13}, {From: -1, To: -1}}})
	if want := []string{"abc", "", "x", "y"}; !slices.Equal(texts, want) {
		t.Errorf("%q were matched, want %q", texts, want)
	}
}

func TestCloseWithoutRecord(t *testing.T) {
	var texts seen
	c := New(3, texts.match)
	check(t, c.Close())
	if c.Feed([]byte("a\n")); len(c.Close()) > 0 {
		t.Errorf("an empty record is told at the end")
	}
}

// However long records are, there is room for no more than the limit.
func TestRoomIsBounded(t *testing.T) {
	for limit := range api.MaxText + 1 {
		var texts seen
		c := New(limit, texts.match)
		for _, piece := range []string{"a", strings.Repeat("b", 1000), "\n", strings.Repeat("c", limit), "\n", strings.Repeat("d", limit+1)} {
			c.Feed([]byte(piece))
			if cap(c.held) > limit {
				t.Errorf("with the limit %d: room for %d bytes", limit, cap(c.held))
			}
		}
	}
}
