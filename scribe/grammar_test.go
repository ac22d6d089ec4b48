package scribe_test

import (
	"math/rand/v2"
	"regexp"
	"slices"
	"strconv"
	"strings"
	"testing"

	"scribe/api"
	"scribe/scribe"
)

// grammar follows the document's grammar along all ways at once, with no look ahead: each method takes the places at which a thing may begin, and answers those at which it may be over. It notes how far a byte was asked for (so far a pattern goes on), and what is wrong ahead of that.
type grammar struct {
	text   string
	asked  int
	faults []faulty
	told   []int
}

// want is the answer that the document asks for, but for ErrLong and ErrSize.
func (g *grammar) want() (api.Errno, int) {
	if !slices.Contains(g.choice([]int{0}, 0), len(g.text)) {
		g.note(api.ErrSyntax, g.asked)
	}
	slices.Sort(g.told)
	if told := slices.Compact(g.told); len(told) > api.MaxGroups {
		g.note(api.ErrGroups, told[api.MaxGroups])
	}
	if len(g.faults) == 0 {
		return api.OK, 0
	}
	first := slices.MinFunc(g.faults, func(a, b faulty) int {
		if a.at != b.at {
			return a.at - b.at
		}
		return int(a.code - b.code)
	})
	return first.code, first.at
}

func (g *grammar) note(code api.Errno, at int) {
	g.faults = append(g.faults, faulty{code: code, at: at})
}

func (g *grammar) oneOf(from []int, fits func(b byte) bool) []int {
	var ends []int
	for _, at := range from {
		g.asked = max(g.asked, at)
		if at < len(g.text) && fits(g.text[at]) {
			ends = append(ends, at+1)
		}
	}
	return ends
}

func (g *grammar) sign(from []int, sign string) []int {
	return g.oneOf(from, func(b byte) bool { return strings.IndexByte(sign, b) >= 0 })
}

func join(ways ...[]int) []int {
	all := slices.Concat(ways...)
	slices.Sort(all)
	return slices.Compact(all)
}

func again(from []int, one func(from []int) []int) []int {
	all := from
	for len(from) > 0 {
		from = one(from)
		all = join(all, from)
	}
	return all
}

func (g *grammar) choice(from []int, deep int) []int {
	row := func(from []int) []int {
		return again(from, func(from []int) []int {
			atom := g.atom(from, deep)
			return join(atom, g.count(atom))
		})
	}
	return again(row(from), func(from []int) []int { return row(g.sign(from, "|")) })
}

func (g *grammar) atom(from []int, deep int) []int {
	open := g.sign(from, "(")
	for _, at := range open {
		if deep > api.MaxDeep-1 {
			g.note(api.ErrDeep, at-1)
		}
		if at == len(g.text) || g.text[at] != '?' {
			g.told = append(g.told, at-1)
		}
	}
	var group []int
	if len(open) > 0 {
		inner := join(open, g.sign(g.sign(open, "?"), ":"))
		group = g.sign(g.choice(inner, deep+1), ")")
	}
	plain := g.oneOf(from, func(b byte) bool { return strings.IndexByte(`\()[]{}*+?|.`, b) < 0 })
	return join(group, g.sign(from, "."), plain, g.escape(from), g.list(from))
}

func (g *grammar) escape(from []int) []int {
	slash := g.sign(from, `\`)
	const hex = "0123456789abcdefABCDEF"
	return join(g.sign(slash, `\()[]{}*+?|.-^nt`), g.sign(g.sign(g.sign(slash, "x"), hex), hex))
}

func (g *grammar) list(from []int) []int {
	open := g.sign(from, "[")
	open = join(open, g.sign(open, "^"))
	return g.sign(again(g.item(open), g.item), "]")
}

func (g *grammar) item(from []int) []int {
	var all []int
	for _, at := range from {
		first := g.end([]int{at})
		second := g.sign(first, "-")
		last := g.end(second)
		if len(last) > 0 && endByte(g.text[second[0]:last[0]]) < endByte(g.text[at:first[0]]) {
			g.note(api.ErrSyntax, second[0])
		}
		all = join(all, first, last)
	}
	return all
}

func (g *grammar) end(from []int) []int {
	plain := g.oneOf(from, func(b byte) bool { return strings.IndexByte(`\()[]{}*+?|.-^`, b) < 0 })
	return join(plain, g.escape(from))
}

func endByte(end string) byte {
	switch {
	case end == `\n`:
		return 10
	case end == `\t`:
		return 9
	case strings.HasPrefix(end, `\x`):
		n, _ := strconv.ParseUint(end[2:], 16, 8)
		return byte(n)
	}
	return end[len(end)-1]
}

var longNumber = regexp.MustCompile(`^([1-9][0-9]|[0-9])`)

func (g *grammar) count(from []int) []int {
	open := g.sign(from, "{")
	var shut []int
	for _, at := range open {
		for _, end := range g.number(at, 0) {
			comma := g.sign([]int{end}, ",")
			shut = join(shut, []int{end}, comma)
			for _, next := range comma {
				least, _ := strconv.Atoi(g.text[at:end])
				shut = join(shut, g.number(next, least))
			}
		}
	}
	return join(g.sign(from, "*+?"), g.sign(shut, "}"))
}

func (g *grammar) number(at, least int) []int {
	if s := longNumber.FindString(g.text[at:]); s != "" {
		if n, _ := strconv.Atoi(s); n > api.MaxCount || n < least {
			g.note(api.ErrCount, at)
		}
	}
	one := g.sign([]int{at}, "0123456789")
	return join(one, g.sign(g.sign([]int{at}, "123456789"), "0123456789"))
}

func checkGrammar(t *testing.T, pattern string) {
	t.Helper()
	g := grammar{text: pattern}
	want, place := g.want()
	text, code, at := scribe.Print(pattern)
	if code == api.ErrSize && at == 0 && want == api.OK {
		code = api.OK
	} else if code == api.OK {
		if again, code, at := scribe.Print(text); len(text) <= api.MaxPattern && (again != text || code != api.OK || at != 0) {
			t.Errorf("P3: Print(%q) = %q, which is printed as %q, %d at %d", pattern, text, again, code, at)
		}
	} else if text != "" {
		t.Errorf("P1: Print(%q) = %q beside the error %d", pattern, text, code)
	}
	if code != want || at != place {
		t.Errorf("P3: Print(%q): %d at %d, want %d at %d", pattern, code, at, want, place)
	}
	checkCompiled(t, pattern)
}

func checkCompiled(t *testing.T, pattern string) {
	t.Helper()
	_, want, place := scribe.Print(pattern)
	p, code, at := scribe.Compile(pattern)
	if code != want || at != place || (p == nil) != (code != api.OK) {
		t.Errorf("P4: Compile(%q) = %v, %d at %d, but Print %d at %d", pattern, p, code, at, want, place)
	}
}

// checkAll checks all patterns of at most length bytes, each of them one of the letters.
func checkAll(t *testing.T, ahead, letters string, length int) {
	checkGrammar(t, ahead)
	if length == 0 || t.Failed() {
		return
	}
	for i := range len(letters) {
		checkAll(t, ahead+letters[i:i+1], letters, length-1)
	}
}

func TestAllShortPatterns(t *testing.T) {
	checkAll(t, "", `a()[]{}*?|.-^:\x,12`, 4)
	checkAll(t, "a{", `0123,}x`, 5)
	checkAll(t, "[", `ab-^\x6]`, 5)
	checkAll(t, "(", `()?:a|`, 5)
	checkAll(t, "((((((", `()?:`, 5)
	checkAll(t, "()()()()()()()", `()?:`, 5)
	checkAll(t, "()(((((((", `()?:`, 5)
}

func TestMixedPatterns(t *testing.T) {
	random := rand.New(rand.NewPCG(1, 2))
	pieces := []string{"a", "b", "(", "(", "(?:", ")", ")", ")", "[", "]", "[a-c]", "[^b-a]", "-", "^", "*", "+", "?", "{2}", "{", "}", "1", "20", "21", ",", ",", "{3,2}", "{0,", "|", ".", `\`, `\n`, `\x`, `\x4`, "\x00", "\xff"}
	for range 40000 {
		var s strings.Builder
		for range random.IntN(14) {
			s.WriteString(pieces[random.IntN(len(pieces))])
		}
		checkGrammar(t, s.String())
	}
}

// Any bytes at all: every call ends, and none panics.
func TestAnyBytes(t *testing.T) {
	random := rand.New(rand.NewPCG(3, 4))
	for range 20000 {
		b := make([]byte, random.IntN(api.MaxPattern+20))
		for i := range b {
			b[i] = byte(random.Uint32())
		}
		checkCompiled(t, string(b))
	}
}
