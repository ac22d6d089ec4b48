package scribe_test

import (
	"slices"
	"strings"
	"testing"

	"scribe/api"
	"scribe/scribe"
)

func compiled(t *testing.T, pattern string) *scribe.Pattern {
	t.Helper()
	p, code, at := scribe.Compile(pattern)
	if p == nil || code != api.OK || at != 0 {
		t.Fatalf("P4: Compile(%q) = %v, %d at %d, want a pattern", pattern, p, code, at)
	}
	return p
}

// matched is a case of Match: want are pairs of places, none if the pattern does not match.
type matched struct {
	pattern, text string
	want          []int
}

func pairs(places []int) []api.Span {
	var spans []api.Span
	for pair := range slices.Chunk(places, 2) {
		spans = append(spans, api.Span{From: pair[0], To: pair[1]})
	}
	return spans
}

func checkMatched(t *testing.T, cases []matched) {
	t.Helper()
	for _, c := range cases {
		want := pairs(c.want)
		if got, code := compiled(t, c.pattern).Match(c.text); !slices.Equal(got, want) || code != api.OK {
			t.Errorf("P5: Match of %q with %q = %v, %d, want %v", c.pattern, c.text, got, code, want)
		}
	}
}

func TestMatchExamples(t *testing.T) {
	checkMatched(t, []matched{
		{"(a|ab)(c|bcd)(d*)", "abcd", []int{0, 4, 0, 2, 2, 3, 3, 4}},
		{"((a)|b)*", "ab", []int{0, 2, 1, 2, 0, 1}},
		{"(a*)*", "", []int{0, 0, -1, -1}},
		{"(a*)+", "", []int{0, 0, 0, 0}},
		{"([a-z]+)=([0-9]*)", "ab=12", []int{0, 5, 0, 2, 3, 5}},
		{"([a-z]+)=([0-9]*)", "q=", []int{0, 2, 0, 1, 2, 2}},
		{"([a-z]+)=([0-9]*)", "x", nil},
	})
}

func TestMatchPlain(t *testing.T) {
	checkMatched(t, []matched{
		{"", "", []int{0, 0}}, {"", "a", nil}, {"a", "", nil}, {"a", "a", []int{0, 1}}, {"a", "b", nil}, {"a", "A", nil},
		{"a", "ab", nil}, {"a", "ba", nil}, {"ab", "a", nil}, {"ab", "ab", []int{0, 2}}, {"ab", "ba", nil}, {"abc", "abc", []int{0, 3}}, {"abc", "abd", nil},
		{`\x00`, "\x00", []int{0, 1}}, {`\n\t`, "\n\t", []int{0, 2}}, {`\.`, ".", []int{0, 1}}, {`\.`, "a", nil}, {`\\n`, `\n`, []int{0, 2}}, {"é", "é", []int{0, 2}}, {"..", "é", []int{0, 2}}, {".", "é", nil},
		{"^a", "^a", []int{0, 2}}, {"^a", "a", nil}, {"a-", "a-", []int{0, 2}},
	})
}

// Each kind of atom, at each byte.
func TestMatchBytes(t *testing.T) {
	for b := range 256 {
		one := string([]byte{byte(b)})
		for _, c := range []struct {
			pattern string
			fits    bool
		}{
			{".", b != 10}, {`\x0a`, b == 10}, {`\n`, b == 10}, {`\t`, b == 9}, {`\xfF`, b == 255}, {`\x80`, b == 128}, {`\x7f`, b == 127}, {"\xc3", b == 195}, {"a", b == 97}, {`\?`, b == '?'},
			{"[a]", b == 'a'}, {"[a-c]", 'a' <= b && b <= 'c'}, {"[c-ea]", 'c' <= b && b <= 'e' || b == 'a'}, {"[^a-c]", b < 'a' || b > 'c'}, {`[\-\^\]]`, b == '-' || b == '^' || b == ']'}, {`[^\^]`, b != '^'}, {"[^a]", b != 'a'}, {`[^\n]`, b != 10},
			{`[\x00-\xff]`, true}, {`[^\x00-\xff]`, false}, {`[\x80-\xff]`, b >= 128}, {`[^\x80-\xff]`, b < 128}, {`[\x3f-\x40\x7f-\x80\xbf-\xc0]`, b == 63 || b == 64 || b == 127 || b == 128 || b == 191 || b == 192}, {`[\x00\xff]`, b == 0 || b == 255}, {"[\x00-\x1f]", b < 32},
		} {
			var want []int
			if c.fits {
				want = []int{0, 1}
			}
			checkMatched(t, []matched{{c.pattern, one, want}, {c.pattern, one + one, nil}, {c.pattern, "", nil}})
		}
	}
}

func TestMatchRows(t *testing.T) {
	checkMatched(t, []matched{
		{"(a*)(a*)", "aaa", []int{0, 3, 0, 3, 3, 3}}, {"(a*)(a)(a*)", "aaa", []int{0, 3, 0, 2, 2, 3, 3, 3}}, {"(a*)(a+)", "aaa", []int{0, 3, 0, 2, 2, 3}}, {"(a?)(a*)(a*)", "aaa", []int{0, 3, 0, 1, 1, 3, 3, 3}},
		{"(a*)(ab)?(b*)", "aab", []int{0, 3, 0, 2, -1, -1, 2, 3}}, {"(a*)(ab)(b*)", "aab", []int{0, 3, 0, 1, 1, 3, 3, 3}}, {"(a|ab)(b|)(b*)", "abb", []int{0, 3, 0, 2, 2, 3, 3, 3}},
		{"(|a|ab|abc)(.*)", "abcd", []int{0, 4, 0, 3, 3, 4}}, {"(a|ab|abc)(bcd|cd|d)", "abcd", []int{0, 4, 0, 3, 3, 4}}, {"(a|ab)(bcd|cd|d)", "abcd", []int{0, 4, 0, 2, 2, 4}}, {"(a|abc)(bcd|cd)", "abcd", []int{0, 4, 0, 1, 1, 4}},
		// the whole first piece counts, not its first turn
		{"(?:(a)|(aab)|b)*(b*)", "aabb", []int{0, 4, -1, -1, 0, 3, 4, 4}}, {"((?:ab)*)(a?)(.*)", "ababa", []int{0, 5, 0, 4, 4, 5, 5, 5}},
		{"(.*)(.*)(.)", "abc", []int{0, 3, 0, 2, 2, 2, 2, 3}}, {"()()()", "", []int{0, 0, 0, 0, 0, 0, 0, 0}}, {"()a()", "a", []int{0, 1, 0, 0, 1, 1}},
		{"(.*),(.*)", "a,b,c", []int{0, 5, 0, 3, 4, 5}}, {"([^,]*),(.*)", "a,b,c", []int{0, 5, 0, 1, 2, 5}}, {"(.*),(.*)", "abc", nil},
	})
}

func TestMatchChoices(t *testing.T) {
	checkMatched(t, []matched{
		{"(a)|(a)", "a", []int{0, 1, 0, 1, -1, -1}}, {"(b)|(a)", "a", []int{0, 1, -1, -1, 0, 1}}, {"(a)|b", "b", []int{0, 1, -1, -1}}, {"a|b", "ab", nil}, {"a|b", "", nil}, {"a|b|", "", []int{0, 0}}, {"|", "", []int{0, 0}}, {"|", "a", nil},
		{"(a*)|(aa)", "aa", []int{0, 2, 0, 2, -1, -1}}, {"(aa)|(a*)", "aa", []int{0, 2, 0, 2, -1, -1}}, {"(aa)|(a*)", "a", []int{0, 1, -1, -1, 0, 1}},
		// the first row that matches the part, not the one with the longest first piece
		{"(a)(.*)|(ab)(.*)", "abc", []int{0, 3, 0, 1, 1, 3, -1, -1, -1, -1}}, {"(?:(a)b|(ab))c", "abc", []int{0, 3, 0, 1, -1, -1}}, {"(?:|(a)|a)*", "a", []int{0, 1, 0, 1}}, {"(?:(a)|ab)(?:(c)|bcd)", "abcd", []int{0, 4, 0, 1, -1, -1}},
		{"()|(a|)", "", []int{0, 0, 0, 0, -1, -1}}, {"(a()|()a)", "a", []int{0, 1, 0, 1, 1, 1, -1, -1}},
	})
}

func TestMatchCounts(t *testing.T) {
	a := func(n int) string { return strings.Repeat("a", n) }
	for _, c := range []struct {
		count       string
		least, most int
	}{
		{"", 1, 1}, {"*", 0, 99}, {"+", 1, 99}, {"?", 0, 1}, {"{0}", 0, 0}, {"{1}", 1, 1}, {"{2}", 2, 2}, {"{20}", 20, 20}, {"{0,}", 0, 99}, {"{1,}", 1, 99}, {"{2,}", 2, 99}, {"{20,}", 20, 99}, {"{0,0}", 0, 0}, {"{0,1}", 0, 1}, {"{0,2}", 0, 2}, {"{2,3}", 2, 3}, {"{3,3}", 3, 3}, {"{19,20}", 19, 20}, {"{0,20}", 0, 20},
	} {
		for n := range 25 {
			var want []int
			if c.least <= n && n <= c.most {
				want = []int{0, n}
			}
			checkMatched(t, []matched{{"a" + c.count, a(n), want}, {"[^b]" + c.count, a(n), want}, {"(?:a)" + c.count, a(n), want}, {"a" + c.count, a(n) + "b", nil}})
			if want != nil && n > 0 {
				want = append(want, n-1, n)
			} else if want != nil {
				want = append(want, -1, -1)
			}
			checkMatched(t, []matched{{"(a)" + c.count, a(n), want}})
		}
	}
}

func TestMatchTurns(t *testing.T) {
	checkMatched(t, []matched{
		{"(a|ab|b)*", "ab", []int{0, 2, 0, 2}}, {"(ab|a|b)*", "aab", []int{0, 3, 1, 3}}, {"(a{0,2})*", "aaaaa", []int{0, 5, 4, 5}}, {"(a{1,2}){2}", "aaa", []int{0, 3, 2, 3}}, {"(a{2}|a{3})*", "aaaaa", []int{0, 5, 3, 5}}, {"(a{2}|a{3})*", "aaaaaaa", []int{0, 7, 5, 7}}, {"(a{2}|a{3})*", "a", nil},
		{"(a*){2}", "aaa", []int{0, 3, 3, 3}}, {"(a*){2,}", "aaa", []int{0, 3, 3, 3}}, {"(a*){1,2}", "aaa", []int{0, 3, 0, 3}}, {"(a+){1,2}", "aaa", []int{0, 3, 0, 3}}, {"(a+){2}", "aaa", []int{0, 3, 2, 3}}, {"(a+){3}", "aaa", []int{0, 3, 2, 3}}, {"(a+){4}", "aaa", nil},
		{"((?:ab)*|a)(b?)", "ab", []int{0, 2, 0, 2, 2, 2}}, {"(a|b|c|d){2}", "abc", nil}, {"(?:(a)(b)){2}", "abab", []int{0, 4, 2, 3, 3, 4}}, {"(?:(a)(b)){2}", "ab", nil},
		{"(ab?){0,2}(.*)", "abaab", []int{0, 5, 2, 3, 3, 5}}, {"(a{0,2}){0,2}(.*)", "aaaaa", []int{0, 5, 2, 4, 4, 5}}, {"(.){0,2}(.*)", "abc", []int{0, 3, 1, 2, 2, 3}},
	})
}

// Least turns may be empty; those beyond may not.
func TestMatchEmptyTurns(t *testing.T) {
	checkMatched(t, []matched{
		{"()*", "", []int{0, 0, -1, -1}}, {"()+", "", []int{0, 0, 0, 0}}, {"()?", "", []int{0, 0, -1, -1}}, {"(){0}", "", []int{0, 0, -1, -1}}, {"(){3}", "", []int{0, 0, 0, 0}}, {"(){0,3}", "", []int{0, 0, -1, -1}}, {"(){2,3}", "", []int{0, 0, 0, 0}}, {"(){2,}", "", []int{0, 0, 0, 0}}, {"()*", "a", nil}, {"(){20}", "a", nil},
		{"(a?)*", "", []int{0, 0, -1, -1}}, {"(a?)+", "", []int{0, 0, 0, 0}}, {"(a?)+", "a", []int{0, 1, 0, 1}}, {"(a?)?", "", []int{0, 0, -1, -1}}, {"(a?)?", "a", []int{0, 1, 0, 1}}, {"(a?){2}", "a", []int{0, 1, 1, 1}}, {"(a?){2,}", "aaa", []int{0, 3, 2, 3}}, {"(a?){2,}", "a", []int{0, 1, 1, 1}},
		{"(a?){3}", "", []int{0, 0, 0, 0}}, {"(a?){3}", "a", []int{0, 1, 1, 1}}, {"(a?){3}", "aa", []int{0, 2, 2, 2}}, {"(a?){3}", "aaa", []int{0, 3, 2, 3}}, {"(a?){3}", "aaaa", nil}, {"(a?){0,3}", "a", []int{0, 1, 0, 1}}, {"(a?){2,3}", "", []int{0, 0, 0, 0}}, {"(a?){2,3}", "aaa", []int{0, 3, 2, 3}}, {"(a?){2,3}", "aaaa", nil},
		{"((a)|)+", "", []int{0, 0, 0, 0, -1, -1}}, {"((a)|){2}", "a", []int{0, 1, 1, 1, 0, 1}}, {"((a)|){0,2}", "a", []int{0, 1, 0, 1, 0, 1}}, {"(|a)*", "aa", []int{0, 2, 1, 2}}, {"(|a){2}", "a", []int{0, 1, 1, 1}}, {"(|a){3}", "aa", []int{0, 2, 2, 2}},
		// a least turn that is empty stands ahead, if the first one can't be longer
		{"(b?|(a)){2}", "a", []int{0, 1, 1, 1, 0, 1}}, {"(a?b|){2}(a)", "a", []int{0, 1, 0, 0, 0, 1}}, {"(a?){20}", "aaaa", []int{0, 4, 4, 4}}, {"((a*)*)*", "", []int{0, 0, -1, -1, -1, -1}}, {"((a*)*)+", "", []int{0, 0, 0, 0, -1, -1}}, {"((a*)+)+", "", []int{0, 0, 0, 0, 0, 0}}, {"((a*)+)*", "a", []int{0, 1, 0, 1, 0, 1}}, {"((a*)+){2}", "a", []int{0, 1, 1, 1, 1, 1}},
		{"(a*)*b", "b", []int{0, 1, -1, -1}}, {"(a*)+b", "b", []int{0, 1, 0, 0}}, {"(a*)+(b)", "aab", []int{0, 3, 0, 2, 2, 3}}, {"a(b*)*c", "ac", []int{0, 2, -1, -1}},
	})
}

func TestMatchGroupsInTurns(t *testing.T) {
	checkMatched(t, []matched{
		{"(?:(a)|(b)|(c))*", "cab", []int{0, 3, 1, 2, 2, 3, 0, 1}}, {"((a)(b)?)*", "aba", []int{0, 3, 2, 3, 2, 3, 1, 2}}, {"((a)(b)?)*", "abaa", []int{0, 4, 3, 4, 3, 4, 1, 2}}, {"(x(y)?|z)*", "xyzx", []int{0, 4, 3, 4, 1, 2}}, {"(?:a(b*))*", "abba", []int{0, 4, 4, 4}}, {"(?:a(b)*)*", "abba", []int{0, 4, 2, 3}}, {"(?:a(b)*)*", "abbaab", []int{0, 6, 5, 6}},
		{"((a*)(b*))*", "abab", []int{0, 4, 2, 4, 2, 3, 3, 4}}, {"((a*)(b*))*", "ba", []int{0, 2, 1, 2, 1, 2, 2, 2}}, {"((a)*(b)*)*", "ba", []int{0, 2, 1, 2, 1, 2, 0, 1}}, {"((a*)b)*", "aabb", []int{0, 4, 3, 4, 3, 3}}, {"(?:(a)|(b)){3}", "aab", []int{0, 3, 1, 2, 2, 3}}, {"(?:(a)|(b)){3}", "aaa", []int{0, 3, 2, 3, -1, -1}},
		{"(?:((a)|b)*c)*", "abcbc", []int{0, 5, 3, 4, 0, 1}}, {"(?:(a)*b)*", "aabb", []int{0, 4, 1, 2}}, {"((((((((a))))))))*", "aa", []int{0, 2, 1, 2, 1, 2, 1, 2, 1, 2, 1, 2, 1, 2, 1, 2, 1, 2}},
		{"(a){0}", "", []int{0, 0, -1, -1}}, {"(a){0}", "a", nil}, {"(a){0}(b)", "b", []int{0, 1, -1, -1, 0, 1}}, {"(?:(a)(b)){0}c", "c", []int{0, 1, -1, -1, -1, -1}}, {"(?:a|(a))", "a", []int{0, 1, -1, -1}}, {"(a)(b)(c)(d)(e)(f)(g)(h)(i)", "abcdefghi", []int{0, 9, 0, 1, 1, 2, 2, 3, 3, 4, 4, 5, 5, 6, 6, 7, 7, 8, 8, 9}},
	})
}

func TestMatchLongTexts(t *testing.T) {
	most := strings.Repeat("ab", api.MaxText/2)
	checkMatched(t, []matched{
		{".*", most, []int{0, 100}}, {"(ab)*", most, []int{0, 100, 98, 100}}, {"(ab)*", most[1:], nil}, {"((a|b)*)*", most, []int{0, 100, 0, 100, 99, 100}}, {"(.*)(b)", most, []int{0, 100, 0, 99, 99, 100}}, {"(.*)(a)", most, nil}, {"(a|b){20}(.*)", most, []int{0, 100, 19, 20, 20, 100}},
		{"(?:.{20}){2}(.*)", most, []int{0, 100, 40, 100}}, {"(.{10,20})*", most, []int{0, 100, 80, 100}}, {"(.{10,19})*", most, []int{0, 100, 90, 100}}, {"a", most, nil}, {"", most, nil}, {"(?:a|b|ab)*(a)(.*)", most, []int{0, 100, 98, 99, 99, 100}},
		{"[^c]*c?", strings.Repeat("\xff", 99) + "c", []int{0, 100}}, {".*", strings.Repeat("a", 99) + "\n", nil},
	})
}
