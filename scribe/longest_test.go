package scribe_test

import (
	"slices"
	"strings"
	"testing"

	"scribe/api"
	"scribe/scribe"
)

// begun is a case of Longest: a length, and pairs of places.
type begun struct {
	pattern, text string
	length        int
	want          []int
}

func checkBegun(t *testing.T, cases []begun) {
	t.Helper()
	for _, c := range cases {
		want := pairs(c.want)
		if length, got, code := compiled(t, c.pattern).Longest(c.text); length != c.length || !slices.Equal(got, want) || code != api.OK {
			t.Errorf("P6: Longest of %q in %q = %d, %v, %d, want %d, %v", c.pattern, c.text, length, got, code, c.length, want)
		}
	}
}

func TestLongest(t *testing.T) {
	checkBegun(t, []begun{
		{"(ab)*", "ababa", 4, []int{0, 4, 2, 4}}, {"a|abc", "abcd", 3, []int{0, 3}}, {"a|abc", "abd", 1, []int{0, 1}}, {"abc|a", "abd", 1, []int{0, 1}}, {"a", "a", 1, []int{0, 1}}, {"a", "aa", 1, []int{0, 1}}, {".*", "ab\ncd", 2, []int{0, 2}}, {".*", "\n", 0, []int{0, 0}},
		// the groups are those of the longest beginning
		{"(a)|(ab)", "abc", 2, []int{0, 2, -1, -1, 0, 2}}, {"(a*)(b?)(a*)", "aabaac", 5, []int{0, 5, 0, 2, 2, 3, 3, 5}}, {"(a*)b?", "aac", 2, []int{0, 2, 0, 2}}, {"(a|ab)(c|bcd)(d*)", "abcde", 4, []int{0, 4, 0, 2, 2, 3, 3, 4}}, {"(a|ab)(c|bcd)?", "abd", 2, []int{0, 2, 0, 2, -1, -1}},
		{"(a?){3}", "aaaa", 3, []int{0, 3, 2, 3}}, {"(a{2}|a{3})*", "aaaab", 4, []int{0, 4, 2, 4}}, {"a{2,3}", "aaaa", 3, []int{0, 3}}, {"([a-z]+)=([0-9]*)", "ab=12\nx", 5, []int{0, 5, 0, 2, 3, 5}},
	})
}

func TestLongestEmpty(t *testing.T) {
	checkBegun(t, []begun{
		{"", "", 0, []int{0, 0}}, {"", "xyz", 0, []int{0, 0}}, {"(ab)*", "b", 0, []int{0, 0, -1, -1}}, {"(ab)*", "a", 0, []int{0, 0, -1, -1}}, {"(a*)+", "b", 0, []int{0, 0, 0, 0}}, {"(a)?", "", 0, []int{0, 0, -1, -1}}, {"a|", "b", 0, []int{0, 0}}, {"(a){0}", "a", 0, []int{0, 0, -1, -1}},
	})
}

func TestLongestNone(t *testing.T) {
	checkBegun(t, []begun{
		{"a", "", -1, nil}, {"a", "b", -1, nil}, {"a", "ba", -1, nil}, {"(a)+", "", -1, nil}, {"(a|b)*c", "abab", -1, nil}, {"a{2}", "ab", -1, nil}, {".", "\n", -1, nil}, {`[^\x00-\xff]`, "a", -1, nil}, {"(a)(b)(c)", "abd", -1, nil},
	})
}

func TestTooLongTexts(t *testing.T) {
	most := strings.Repeat("a", api.MaxText)
	for _, pattern := range []string{"", "a", ".*", "(a)*", "b"} {
		p := compiled(t, pattern)
		for _, text := range []string{most + "a", most + "\n", strings.Repeat("b", 1<<20)} {
			if spans, code := p.Match(text); len(spans) > 0 || code != api.ErrLong {
				t.Errorf("P5: Match of %q with %d bytes = %v, %d, want ErrLong", pattern, len(text), spans, code)
			}
			if length, spans, code := p.Longest(text); length != 0 || len(spans) > 0 || code != api.ErrLong {
				t.Errorf("P6: Longest of %q in %d bytes = %d, %v, %d, want 0, none and ErrLong", pattern, len(text), length, spans, code)
			}
		}
		if _, code := p.Match(most); code != api.OK {
			t.Errorf("P5: Match of %q with %d bytes: %d", pattern, len(most), code)
		}
		if _, _, code := p.Longest(most); code != api.OK {
			t.Errorf("P6: Longest of %q in %d bytes: %d", pattern, len(most), code)
		}
	}
	checkBegun(t, []begun{{"(a)*", most, 100, []int{0, 100, 99, 100}}, {"(a)*", most[1:] + "b", 99, []int{0, 99, 98, 99}}, {"b", most, -1, nil}})
}

func TestNilPatternMatchesNothing(t *testing.T) {
	var none *scribe.Pattern
	for _, text := range []string{"", "a", strings.Repeat("a", api.MaxText+1)} {
		if spans, code := none.Match(text); len(spans) > 0 || code != api.ErrNil {
			t.Errorf("P1: Match of nil with %d bytes = %v, %d, want ErrNil", len(text), spans, code)
		}
		if length, spans, code := none.Longest(text); length != 0 || len(spans) > 0 || code != api.ErrNil {
			t.Errorf("P1: Longest of nil in %d bytes = %d, %v, %d, want 0, none and ErrNil", len(text), length, spans, code)
		}
	}
}
