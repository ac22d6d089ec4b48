package scribe_test

import (
	"math/rand/v2"
	"regexp"
	"slices"
	"strings"
	"testing"

	"scribe/api"
	"scribe/scribe"
)

// textsOf is all texts of at most length of the letters.
func textsOf(letters string, length int) []string {
	texts := []string{""}
	for from := 0; length > 0; length-- {
		to := len(texts)
		for _, ahead := range texts[from:to] {
			for i := range len(letters) {
				texts = append(texts, ahead+letters[i:i+1])
			}
		}
		from = to
	}
	return texts
}

// checkRule holds Match and Longest against the document's words.
func checkRule(t *testing.T, pattern string, texts []string) {
	t.Helper()
	p := compiled(t, pattern)
	r := ruledOf(pattern)
	for _, text := range texts {
		known := &trial{text, map[asked]outcome{}}
		want := r.spans(known, len(text))
		if got, code := p.Match(text); !slices.Equal(got, want) || code != api.OK {
			t.Errorf("P5: Match of %q with %q = %v, %d, want %v", pattern, text, got, code, want)
		}
		length, want := r.longest(known)
		if n, got, code := p.Longest(text); n != length || !slices.Equal(got, want) || code != api.OK {
			t.Errorf("P6: Longest of %q in %q = %d, %v, %d, want %d, %v", pattern, text, n, got, code, length, want)
		}
	}
}

// checkSame holds what a pattern matches against the library's expressions, which tell of the groups by another rule.
func checkSame(t *testing.T, pattern string, texts []string) {
	t.Helper()
	p := compiled(t, pattern)
	whole := regexp.MustCompile(`\A(?:` + pattern + `)\z`)
	begin := regexp.MustCompile(`\A(?:` + pattern + `)`)
	begin.Longest()
	for _, text := range texts {
		if got, code := p.Match(text); (len(got) > 0) != whole.MatchString(text) || code != api.OK {
			t.Errorf("P5: Match of %q with %q = %v, %d", pattern, text, got, code)
		}
		length := -1
		if at := begin.FindStringIndex(text); at != nil {
			length = at[1]
		}
		if n, got, code := p.Longest(text); n != length || (len(got) > 0) != (n >= 0) || code != api.OK {
			t.Errorf("P6: Longest of %q in %q = %d, %v, %d, want %d", pattern, text, n, got, code, length)
		}
	}
}

// checkComes looks at what comes of the promises.
func checkComes(t *testing.T, pattern string, texts []string) {
	t.Helper()
	p := compiled(t, pattern)
	text, code, _ := scribe.Print(pattern)
	if code != api.OK {
		t.Fatalf("P3: Print(%q): %d", pattern, code)
	}
	if len(text) <= api.MaxPattern {
		if again, code, at := scribe.Print(text); again != text || code != api.OK || at != 0 {
			t.Errorf("P8: Print(%q) = %q, which is printed as %q, %d at %d", pattern, text, again, code, at)
		}
		checkAlike(t, p, compiled(t, text), pattern, texts)
	}
	for _, text := range texts {
		checkBeginning(t, p, pattern, text)
	}
}

func checkAlike(t *testing.T, p, again *scribe.Pattern, pattern string, texts []string) {
	t.Helper()
	for _, text := range texts {
		first, _ := p.Match(text)
		if second, code := again.Match(text); !slices.Equal(first, second) || code != api.OK {
			t.Errorf("P8: Match of %q with %q = %v, but as it is printed %v, %d", pattern, text, first, second, code)
		}
		n, first, _ := p.Longest(text)
		if m, second, code := again.Longest(text); n != m || !slices.Equal(first, second) || code != api.OK {
			t.Errorf("P8: Longest of %q in %q = %d, %v, but as it is printed %d, %v, %d", pattern, text, n, first, m, second, code)
		}
	}
}

func checkBeginning(t *testing.T, p *scribe.Pattern, pattern, text string) {
	t.Helper()
	groups, _ := p.Groups()
	n, spans, code := p.Longest(text)
	if code != api.OK || n < -1 || n > len(text) {
		t.Errorf("P6: Longest of %q in %q = %d, %v, %d", pattern, text, n, spans, code)
		return
	}
	for end := n + 1; end <= min(len(text), n+4); end++ {
		if got, code := p.Match(text[:end]); len(got) > 0 || code != api.OK {
			t.Errorf("P6: Longest of %q in %q = %d, but %q is matched: %v, %d", pattern, text, n, text[:end], got, code)
		}
	}
	if n < 0 {
		return
	}
	if got, code := p.Match(text[:n]); !slices.Equal(got, spans) || code != api.OK {
		t.Errorf("P10: Longest of %q in %q = %d, %v, but Match of it is %v, %d", pattern, text, n, spans, got, code)
	}
	if len(spans) != groups+1 || spans[0] != (api.Span{From: 0, To: n}) {
		t.Errorf("P6: Longest of %q in %q = %d, %v, with %d groups", pattern, text, n, spans, groups)
	}
	for _, s := range spans {
		if s != (api.Span{From: -1, To: -1}) && (s.From < 0 || s.To < s.From || s.To > n) {
			t.Errorf("P10: Longest of %q in %q = %d, %v: not within the whole", pattern, text, n, spans)
		}
	}
}

// allPatterns hands on each pattern of at most length letters that Compile takes.
func allPatterns(ahead, letters string, length int, each func(pattern string)) {
	if _, code, _ := scribe.Compile(ahead); code == api.OK {
		each(ahead)
	}
	if length == 0 {
		return
	}
	for i := range len(letters) {
		allPatterns(ahead+letters[i:i+1], letters, length-1, each)
	}
}

func TestAllShortMatches(t *testing.T) {
	t.Parallel()
	texts := textsOf("ab", 3)
	count := 0
	check := func(pattern string) {
		count++
		checkRule(t, pattern, texts)
		checkSame(t, pattern, texts)
		checkComes(t, pattern, texts)
	}
	allPatterns("", "ab()|*+", 5, check)
	allPatterns("(a|", "ab)(*?|", 5, check)
	allPatterns("((a*", "b)*?+|", 5, check)
	if count < 4000 {
		t.Errorf("only %d patterns were taken", count)
	}
}

// mixed puts a pattern together from pieces; it may be one that Compile refuses.
func mixed(random *rand.Rand, length int, pieces []string) string {
	var s strings.Builder
	open := 0
	for range random.IntN(length) {
		piece := pieces[random.IntN(len(pieces))]
		if strings.HasPrefix(piece, "(") {
			open++
		} else if strings.HasPrefix(piece, ")") {
			if open == 0 {
				continue
			}
			open--
		}
		s.WriteString(piece)
	}
	return s.String() + strings.Repeat(")", open)
}

// mixedPatterns hands on so many patterns that Compile takes, each of them put together from the pieces.
func mixedPatterns(seed uint64, count, length int, pieces []string, each func(random *rand.Rand, pattern string)) {
	random := rand.New(rand.NewPCG(seed, 0))
	for count > 0 {
		pattern := mixed(random, length, pieces)
		if _, code, _ := scribe.Compile(pattern); code == api.OK {
			each(random, pattern)
			count--
		}
	}
}

func TestMixedMatches(t *testing.T) {
	t.Parallel()
	texts := textsOf("ab\n", 3)
	pieces := []string{"a", "b", "a", `\x61`, `\n`, ".", "[ab]", "[^a]", `[\n-b]`, "[^b-bb]", "(", "(", "(", "(?:", ")", ")", ")*", ")+", ")?", "){2}", "){0,2}", "){1,2}", "){2,}", "){0}", "*", "+", "?", "{2}", "{0,2}", "{1,}", "{0,1}", "{2,2}", "{1}", "|", "|", "|"}
	mixedPatterns(1, 6000, 14, pieces, func(random *rand.Rand, pattern string) {
		checkRule(t, pattern, texts)
		checkSame(t, pattern, texts)
		checkComes(t, pattern, texts)
	})
}

// letters is a text of at most length of the letters.
func letters(random *rand.Rand, letters string, length int) string {
	b := make([]byte, random.IntN(length+1))
	for i := range b {
		b[i] = letters[random.IntN(len(letters))]
	}
	return string(b)
}

func TestLongMatches(t *testing.T) {
	t.Parallel()
	pieces := []string{"a", "b", "ab", ".", "[ab]", "a*", ".*", "(", "(", "(?:", "(a|", "(?:b|", ")", ")*", ")+", ")?", "){2}", "){0,3}", "){3,}", "){10,20}", "){20}", "*", "+", "?", "{2}", "{0,9}", "{5,}", "{20}", "|"}
	mixedPatterns(2, 600, 16, pieces, func(random *rand.Rand, pattern string) {
		var texts []string
		for range 3 {
			texts = append(texts, letters(random, "ab", api.MaxText), strings.Repeat("a", random.IntN(api.MaxText+1)), letters(random, "aaaaaaa\n", 50))
		}
		checkRule(t, pattern, texts)
		checkSame(t, pattern, texts)
		checkComes(t, pattern, texts)
	})
}

// Lists in all the forms that they are written in stand for the same bytes as they are printed.
func TestListsAsPrinted(t *testing.T) {
	var texts []string
	for b := range 256 {
		texts = append(texts, string([]byte{byte(b)}))
	}
	for seed := range uint64(200) {
		m := maker{Rand: rand.New(rand.NewPCG(seed, 1))}
		list := m.list()
		checkRule(t, list.written, texts)
		checkComes(t, list.written, texts)
	}
}

// Patterns with many ways, at texts that make them try these: every call ends.
func TestManyWays(t *testing.T) {
	t.Parallel()
	texts := []string{strings.Repeat("a", 100), strings.Repeat("ab", 50), strings.Repeat("a", 99) + "b", strings.Repeat("a", 99) + "c", strings.Repeat("aab", 33)}
	for _, pattern := range []string{
		"(?:(?:a*)*)*b", "((((((((a*)*)*)*)*)*)*)*)*b", "((((((((a+)+)+)+)+)+)+)+)+b", "(a?){20}a{20}", "(?:a?){20}(?:a?){20}(?:a?){20}", "(?:(?:a|b)*(?:b|c)*)*d", "(?:a|a|a|a|a|a)*b", "(?:a|aa|aaa)*b", "(?:a?a?a?a?a?a?){3}b",
		"(?:.*){20}(?:.*){20}(?:.*){20}", "(?:.*){0,20}(?:.*){0,20}(?:.*){0,20}", "(.*)(.*)(.*)(.*)(.*)(.*)(.*)(.*)(.*)c", "(?:(?:(?:a*){0,3}){0,4}){0,4}b", "(?:(?:a{0,3}){1,4}){2,5}", "(?:(?:){20}a?)*b", "((a*)+|(a|b)+)+c",
		strings.Repeat(".*", 60), strings.Repeat("a?", 59) + "b", strings.Repeat("a*|", 59), "(?:" + strings.Repeat("a*|", 50) + ")*b", "(?:" + strings.Repeat("|", 190) + ")*a",
	} {
		checkRule(t, pattern, []string{strings.Repeat("a", 20) + "b", strings.Repeat("aab", 7)})
		checkSame(t, pattern, texts)
		checkComes(t, pattern, texts)
	}
	checkMatched(t, []matched{
		{"(a?){20}a{20}", strings.Repeat("a", 30), []int{0, 30, 10, 10}}, {"(a?){20}(a{20})", strings.Repeat("a", 40), []int{0, 40, 19, 20, 20, 40}},
		{"((a*)*)*", texts[0], []int{0, 100, 0, 100, 0, 100}}, {"(a*){20}", texts[0], []int{0, 100, 100, 100}}, {"(?:(a*)|(b*))*", texts[1], []int{0, 100, 98, 99, 99, 100}},
	})
}

// Any bytes at all, as patterns and as texts: every call ends, and none panics.
func TestAnyTexts(t *testing.T) {
	t.Parallel()
	random := rand.New(rand.NewPCG(5, 6))
	for range 400 {
		b := make([]byte, random.IntN(2*api.MaxText))
		for i := range b {
			b[i] = byte(random.Uint32())
		}
		text := string(b)
		for _, pattern := range []string{"(.*)(.*)", "([^a]*)*", `([\x80-\xff]|.)*`, `(\n|[^\n]*)*`, "(a|b|c)*"} {
			if len(text) <= api.MaxText {
				checkComes(t, pattern, []string{text})
			} else if spans, code := compiled(t, pattern).Match(text); len(spans) > 0 || code != api.ErrLong {
				t.Errorf("P5: Match of %q with %d bytes = %v, %d, want ErrLong", pattern, len(text), spans, code)
			}
		}
	}
}
