package scribe_test

import (
	"strings"
	"testing"

	"scribe/api"
	"scribe/scribe"
)

type faulty struct {
	pattern string
	code    api.Errno
	at      int
}

// checkFaults holds Print and Compile against what is wanted; OK stands for a pattern that both take.
func checkFaults(t *testing.T, cases []faulty) {
	t.Helper()
	for _, c := range cases {
		text, code, at := scribe.Print(c.pattern)
		if code != c.code || at != c.at {
			t.Errorf("P3: Print(%q): %d at %d, want %d at %d", c.pattern, code, at, c.code, c.at)
		}
		if code != api.OK && text != "" {
			t.Errorf("P1: Print(%q) = %q beside the error %d", c.pattern, text, code)
		}
		p, code, at := scribe.Compile(c.pattern)
		if code != c.code || at != c.at {
			t.Errorf("P4: Compile(%q): %d at %d, want %d at %d", c.pattern, code, at, c.code, c.at)
		}
		if (p == nil) != (code != api.OK) {
			t.Errorf("P1: Compile(%q) = %v beside the error %d", c.pattern, p, code)
		}
	}
}

func syntax(pattern string, at int) faulty {
	return faulty{pattern, api.ErrSyntax, at}
}

func TestSyntaxOfAtoms(t *testing.T) {
	checkFaults(t, []faulty{
		syntax(")", 0), syntax("]", 0), syntax("{", 0), syntax("}", 0),
		syntax("*", 0), syntax("+", 0), syntax("?", 0), syntax("{2}", 0),
		syntax("a)b", 1), syntax("a]b", 1), syntax("a}b", 1), syntax("(a))", 3),
		syntax("|*", 1), syntax("a|+", 2), syntax("(?:?)", 3), syntax("(*)", 1), syntax("({2})", 1), syntax("(|?)", 2),
	})
}

func TestSyntaxOfGroups(t *testing.T) {
	checkFaults(t, []faulty{
		syntax("(", 1), syntax("(a", 2), syntax("(a|", 3), syntax("((a)", 4), syntax("(?", 2), syntax("(?:", 3), syntax("(?:a", 4),
		syntax("(?a)", 2), syntax("(?)", 2), syntax("(??:a)", 2), syntax("(?(a))", 2), syntax("(?:a))", 5),
	})
}

func TestSyntaxOfEscapes(t *testing.T) {
	checkFaults(t, []faulty{
		syntax(`\`, 1), syntax(`\a`, 1), syntax(`\N`, 1), syntax(`\X41`, 1), syntax(`\ `, 1), syntax("\\\n", 1), syntax(`\0`, 1), syntax(`\,`, 1), syntax("\\\xff", 1),
		syntax(`\x`, 2), syntax(`\x4`, 3), syntax(`\xg4`, 2), syntax(`\x4g`, 3), syntax(`\x4G`, 3), syntax("\\x/0", 2), syntax("\\x0:", 3), syntax("\\x@0", 2), syntax("\\x0`", 3),
		syntax(`[\`, 2), syntax(`[\a]`, 2), syntax(`[\x4]`, 4), syntax(`[a-\x`, 5), syntax(`[a-\q]`, 4),
	})
}

func TestSyntaxOfLists(t *testing.T) {
	checkFaults(t, []faulty{
		syntax("[", 1), syntax("[]", 1), syntax("[]a]", 1), syntax("[^", 2), syntax("[^]", 2), syntax("[^^]", 2),
		syntax("[a", 2), syntax("[a-", 3), syntax("[a-b", 4), syntax("[a-]", 3), syntax("[-a]", 1), syntax("[^-]", 2), syntax("[a--]", 3), syntax("[a-^]", 3), syntax("[a-.]", 3), syntax("[a^]", 2),
		syntax("[a-b-c]", 4), syntax("[[a]]", 1), syntax("[a(]", 2), syntax("[a)]", 2), syntax("[a{]", 2), syntax("[a}]", 2), syntax("[a*]", 2), syntax("[a+]", 2), syntax("[a?]", 2), syntax("[a|b]", 2), syntax("[.]", 1),
		syntax("[a]]", 3),
	})
}

func TestSyntaxOfItemsThatFall(t *testing.T) {
	checkFaults(t, []faulty{
		syntax("[b-a]", 3), syntax("[^b-a]", 4), syntax("[b-a", 3), syntax("[b-a-", 3), syntax("[xb-a]", 4), syntax("a{0,1}[c-ab]", 9),
		syntax(`[\xff-\xfe]`, 6), syntax(`[\x01-\x00]`, 6), syntax(`[a-\-]`, 3), syntax("[b-\x00]", 3), syntax("[\xff-a]", 3),
		syntax(`[b-\x61`, 3), syntax(`[b-\x6`, 6), syntax(`[b-\x6]`, 6), syntax(`[b-\`, 4),
		{"[a-a]", api.OK, 0}, {`[\xff-\xff]`, api.OK, 0}, {"[a-\xff]", api.OK, 0},
	})
}

func TestSyntaxOfCounts(t *testing.T) {
	checkFaults(t, []faulty{
		syntax("a{", 2), syntax("a{}", 2), syntax("a{x}", 2), syntax("a{,}", 2), syntax("a{,2}", 2), syntax("a{-1}", 2), syntax("a{ 1}", 2),
		syntax("a{1", 3), syntax("a{1x}", 3), syntax("a{1;2}", 3), syntax("a{1,", 4), syntax("a{1,x}", 4), syntax("a{1, 2}", 4), syntax("a{1,2", 5), syntax("a{1,2x", 5), syntax("a{1,2,3}", 5), syntax("a{1,,}", 4), syntax("a{12", 4), syntax("a{1,12", 6),
		syntax("a{00}", 3), syntax("a{01}", 3), syntax("a{0,00}", 5), syntax("a{0,01}", 5), syntax("a{100}", 4), syntax("a{1,100}", 6), syntax("a{200}", 4),
	})
	for _, first := range []string{"*", "+", "?", "{2}", "{2,}", "{2,3}"} {
		for _, second := range []string{"*", "+", "?", "{", "{2}"} {
			for _, atom := range []string{"a", ".", "[a]", "()", `\*`} {
				checkFaults(t, []faulty{syntax(atom+first+second, len(atom+first))})
			}
		}
	}
}

func TestCount(t *testing.T) {
	checkFaults(t, []faulty{
		{"a{20}", api.OK, 0}, {"a{20,}", api.OK, 0}, {"a{20,20}", api.OK, 0}, {"a{0,20}", api.OK, 0},
		{"a{21}", api.ErrCount, 2}, {"a{21,}", api.ErrCount, 2}, {"a{99}", api.ErrCount, 2}, {"a{0,21}", api.ErrCount, 4}, {"a{20,21}", api.ErrCount, 5},
		{"a{2,1}", api.ErrCount, 4}, {"a{1,0}", api.ErrCount, 4}, {"a{10,9}", api.ErrCount, 5}, {"a{20,19}", api.ErrCount, 5}, {"a{20,2}", api.ErrCount, 5},
		{"a{22,21}", api.ErrCount, 2}, {"(a{1}){3,2}", api.ErrCount, 9},
		// whatever comes behind
		{"a{21", api.ErrCount, 2}, {"a{21x", api.ErrCount, 2}, {"a{213}", api.ErrCount, 2}, {"a{2,1", api.ErrCount, 4}, {"a{2,1)", api.ErrCount, 4}, {"a{2,01}", api.ErrCount, 4}, {"a{1,213}", api.ErrCount, 4},
		// a NUMBER is as long as it can be
		{"a{3,10}", api.OK, 0}, syntax("a{3,10", 6), syntax("a{2", 3), syntax("a{3,100}", 6),
	})
}

func TestDeep(t *testing.T) {
	told, quiet := strings.Repeat("(", api.MaxDeep), strings.Repeat("(?:", api.MaxDeep)
	shut := strings.Repeat(")", api.MaxDeep)
	checkFaults(t, []faulty{
		{told + shut, api.OK, 0}, {quiet + shut, api.OK, 0}, {told[:7] + "()" + shut[:7], api.OK, 0},
		{told[:7] + "(?:)(?:)" + shut[:7] + "(?:)", api.OK, 0},
		{told + "()" + shut, api.ErrDeep, 8}, {quiet + "(?:)" + shut, api.ErrDeep, 24}, {told + "(?:)" + shut, api.ErrDeep, 8},
		{told + "a|b(c", api.ErrDeep, 11},
		{told + "(", api.ErrDeep, 8}, {told + "(?", api.ErrDeep, 8}, {told + "(?x", api.ErrDeep, 8}, {told + "(*", api.ErrDeep, 8},
		syntax(told+`\(`, 10), syntax(told+"[(", 9),
	})
}

func TestGroupsBeyond(t *testing.T) {
	nine := strings.Repeat("()", api.MaxGroups)
	checkFaults(t, []faulty{
		{nine, api.OK, 0}, {nine + "(?:)(?:)", api.OK, 0}, {nine + `\(`, api.OK, 0},
		{nine + "()", api.ErrGroups, 18}, {nine + "(", api.ErrGroups, 18}, {nine + "(*", api.ErrGroups, 18}, {nine + "(?:(", api.ErrGroups, 21}, {nine + "(?:)(", api.ErrGroups, 22},
		syntax(nine+"(?", 20), syntax(nine+"(?a", 20),
		{"(((((((()))))))())()", api.ErrGroups, 18},
	})
}

func TestSize(t *testing.T) {
	checkFaults(t, []faulty{
		{strings.Repeat("a", 60), api.OK, 0}, {strings.Repeat("a", 61), api.ErrSize, 0},
		{strings.Repeat(".", 60), api.OK, 0}, {strings.Repeat(".", 61), api.ErrSize, 0},
		{strings.Repeat("[a]", 60), api.OK, 0}, {strings.Repeat("[a]", 61), api.ErrSize, 0},
		{strings.Repeat(`\n`, 60), api.OK, 0}, {strings.Repeat(`\n`, 61), api.ErrSize, 0},
		{strings.Repeat("a|", 60), api.OK, 0}, {strings.Repeat("a|", 60) + "a", api.ErrSize, 0},
		{strings.Repeat("|", 200), api.OK, 0},
		{strings.Repeat("(?:)", 50), api.OK, 0}, {"()" + strings.Repeat("(?:)", 49), api.OK, 0},
		{"a{20}b{20}c{20}", api.OK, 0}, {"a{20}b{20}c{20}d", api.ErrSize, 0},
		{"a{20}b{20}c{0,20}", api.OK, 0}, {"a{20}b{20}c{1,20}d", api.ErrSize, 0},
		{"a{20}b{20}c{20,}", api.OK, 0}, {"a{20}b{20}c{20,}d", api.ErrSize, 0},
		{"a{20}b{20}c{19}d*", api.OK, 0}, {"a{20}b{20}c{19}de*", api.ErrSize, 0}, {"a{20}b{20}c{19}de+", api.ErrSize, 0}, {"a{20}b{20}c{19}de?", api.ErrSize, 0},
		{"(?:a{20}){3}", api.OK, 0}, {"(?:a{20}){4}", api.ErrSize, 0}, {"(?:a{20}){3}b", api.ErrSize, 0}, {"(?:a{20}){3}()", api.ErrSize, 0}, {"(?:a{20}){3}b{0}", api.OK, 0}, {"(?:a{20}){3}|", api.OK, 0},
		{"(?:(?:a{20}){20}){0}", api.OK, 0}, {"(?:(?:a{20}){20}){0,}", api.ErrSize, 0}, {"(?:(?:a{20}){3}){0}b{20}c{20}d{20}", api.OK, 0},
		// a group is 1 at least, also if all in it is taken no times
		{"(?:a{0}){20}(?:){20}(){20}", api.OK, 0}, {"(?:a{0}){20}(?:){20}(){20}b", api.ErrSize, 0},
		{"(?:(?:(?:(?:(?:(?:(?:(?:a{20}){20}){20}){20}){20}){20}){20}){20}){20}", api.ErrSize, 0},
		{"(?:(?:(?:(?:(?:(?:(?:(?:a{20}){20}){20}){20}){20}){20}){20}){20}){0}", api.OK, 0},
	})
}

func TestLong(t *testing.T) {
	most := strings.Repeat("|", api.MaxPattern)
	checkFaults(t, []faulty{
		{most, api.OK, 0}, {most + "|", api.ErrLong, 0}, {strings.Repeat("(?:)", 50) + "a", api.ErrLong, 0},
		{strings.Repeat("a", 200), api.ErrSize, 0}, {strings.Repeat("a", 201), api.ErrLong, 0},
		syntax(most[1:]+"*", 199), {most + "*", api.ErrLong, 0}, syntax(most[1:]+"(", 200), syntax(most[1:]+`\`, 200),
		{")" + most, api.ErrLong, 0}, {strings.Repeat("(", 1<<16), api.ErrLong, 0},
	})
}

func TestSeveralFaults(t *testing.T) {
	nine := strings.Repeat("()", 9)
	checkFaults(t, []faulty{
		{"a{21}*)", api.ErrCount, 2}, syntax("a**b{21}", 2), syntax("[b-a]{21}", 3), {"a{21}[b-a]", api.ErrCount, 2},
		{nine + "()a{21}", api.ErrGroups, 18}, {"a{21}" + nine + "()", api.ErrCount, 2}, syntax(")"+nine+"()", 0), {nine + "())", api.ErrGroups, 18},
		{"(((((((((a{21}", api.ErrDeep, 8}, {"a{2,1}(((((((((", api.ErrCount, 4},
		// one place: too deep, and the tenth group
		{"()(((((((((", api.ErrDeep, 10}, {"()()((((((((", api.ErrGroups, 11}, {nine + "(?:(?:(?:(?:(?:(?:(?:(?:(", api.ErrDeep, 42},
		// the size goes last
		syntax(strings.Repeat("a", 61)+")", 61), {strings.Repeat("a", 61) + "b{21}", api.ErrCount, 63}, {strings.Repeat("a", 61) + nine + "(", api.ErrGroups, 79}, {strings.Repeat("a", 61) + "(((((((((", api.ErrDeep, 69},
	})
}

func TestNilPattern(t *testing.T) {
	var none *scribe.Pattern
	if n, code := none.Groups(); n != 0 || code != api.ErrNil {
		t.Errorf("P1: Groups of nil = %d, %d, want 0, %d", n, code, api.ErrNil)
	}
}
