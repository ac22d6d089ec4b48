package scribe_test

import (
	"slices"
	"testing"

	"scribe/api"
	"scribe/scribe"
)

// asker is a call that answers spans.
type asker struct {
	name string
	ask  func(p *scribe.Pattern, text string) []api.Span
}

func askers() []asker {
	return []asker{
		{"Match", func(p *scribe.Pattern, text string) []api.Span {
			spans, _ := p.Match(text)
			return spans
		}},
		{"Longest", func(p *scribe.Pattern, text string) []api.Span {
			_, spans, _ := p.Longest(text)
			return spans
		}},
	}
}

// spoil does with an answer what its owner may: it writes into it, and into its spare room.
func spoil(spans []api.Span) {
	spans = append(spans, api.Span{From: 77, To: 77})
	spans = spans[:cap(spans)]
	for i := range spans {
		spans[i] = api.Span{From: 88, To: 88}
	}
}

func spoilInPlace(spans []api.Span) {
	spans = spans[:cap(spans)]
	for i := range spans {
		spans[i] = api.Span{From: 99, To: 99}
	}
}

func TestAnswersAreTheCallers(t *testing.T) {
	for _, pattern := range []string{"", "a*b*", "(a)(b)", "(a)|b|(ab)", "((a)(b)(c)?)", "(a)(b)(c)?(d)?(e)?(f)?(g)?(h)?(i)?"} {
		p := compiled(t, pattern)
		for _, a := range askers() {
			for _, b := range askers() {
				first := a.ask(p, "ab")
				want := slices.Clone(first)
				second := b.ask(p, "ab")
				other := slices.Clone(second)
				spoil(first)
				spoilInPlace(first)
				if !slices.Equal(second, other) {
					t.Errorf("P2: what is written to %s of %q shows in an earlier %s: %v", a.name, pattern, b.name, second)
				}
				if again := a.ask(p, "ab"); !slices.Equal(again, want) {
					t.Errorf("P2: what is written to %s of %q shows in a later one: %v, want %v", a.name, pattern, again, want)
				}
			}
		}
	}
}

// One text after the other leaves nothing behind in the pattern.
func TestMatchesAreOnTheirOwn(t *testing.T) {
	p := compiled(t, "(?:(a)|(b)|c)*")
	other := compiled(t, "(c)|(a.*)")
	texts := textsOf("abc", 3)
	var first, second [][]api.Span
	for _, text := range texts {
		spans, _ := p.Match(text)
		first = append(first, spans)
		spans, _ = other.Match(text)
		second = append(second, spans)
	}
	slices.Reverse(texts)
	slices.Reverse(first)
	slices.Reverse(second)
	for i, text := range texts {
		if spans, _ := p.Match(text); !slices.Equal(spans, first[i]) {
			t.Errorf("P5: Match with %q = %v, but earlier %v", text, spans, first[i])
		}
		if spans, _ := other.Match(text); !slices.Equal(spans, second[i]) {
			t.Errorf("P5: Match with %q = %v, but earlier %v", text, spans, second[i])
		}
	}
}
