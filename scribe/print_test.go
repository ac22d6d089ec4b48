package scribe_test

import (
	"strings"
	"testing"

	"scribe/api"
	"scribe/scribe"
)

type printed struct {
	pattern, want string
	groups        int
}

func checkPrinted(t *testing.T, cases []printed) {
	t.Helper()
	for _, c := range cases {
		got, code, at := scribe.Print(c.pattern)
		if got != c.want || code != api.OK || at != 0 {
			t.Errorf("P3: Print(%q) = %q, %d at %d, want %q", c.pattern, got, code, at, c.want)
		}
		p, code, at := scribe.Compile(c.pattern)
		if p == nil || code != api.OK || at != 0 {
			t.Errorf("P4: Compile(%q) = %v, %d at %d, want a pattern", c.pattern, p, code, at)
			continue
		}
		if n, code := p.Groups(); n != c.groups || code != api.OK {
			t.Errorf("P4: Groups of %q = %d, %d, want %d", c.pattern, n, code, c.groups)
		}
	}
}

func TestPrintAtoms(t *testing.T) {
	checkPrinted(t, []printed{
		{"", "", 0},
		{"a", "a", 0},
		{"abc", "abc", 0},
		{".", ".", 0},
		{"!~", "!~", 0},
		{"-^,:=/", "-^,:=/", 0},
		{"0123456789", "0123456789", 0},
		{"nt", "nt", 0},
		{"x41", "x41", 0},
		{" ", `\x20`, 0},
		{"\x7f", `\x7f`, 0},
		{"\x00\x1f\x80\xab\xff", `\x00\x1f\x80\xab\xff`, 0},
		{"\n\t\r", `\n\t\x0d`, 0},
		{"é", `\xc3\xa9`, 0},
	})
}

func TestPrintEscapes(t *testing.T) {
	checkPrinted(t, []printed{
		{`\\\(\)\[\]\{\}\*\+\?\|\.`, `\\\(\)\[\]\{\}\*\+\?\|\.`, 0},
		{`\-\^`, "-^", 0},
		{`\n\t`, `\n\t`, 0},
		{`\x0a\x0A\x09`, `\n\n\t`, 0},
		{`\x41\x7e\x21`, "A~!", 0},
		{`\x20\x7f\x00\xFF\xAb`, `\x20\x7f\x00\xff\xab`, 0},
		{`\x28\x5c\x2e\x2D\x5E`, `\(\\\.-^`, 0},
		{`\x411`, "A1", 0},
		{`\\n`, `\\n`, 0},
	})
}

func TestPrintCounts(t *testing.T) {
	checkPrinted(t, []printed{
		{"a*b+c?", "a*b+c?", 0},
		{"a{0,}b{1,}c{0,1}", "a*b+c?", 0},
		{"a{0}b{1}c{2}", "a{0}b{1}c{2}", 0},
		{"a{0,0}b{1,1}c{2,2}", "a{0}b{1}c{2}", 0},
		{"a{2,}b{10,}", "a{2,}b{10,}", 0},
		{"a{0,2}b{1,2}c{9,10}", "a{0,2}b{1,2}c{9,10}", 0},
		{"a{20}", "a{20}", 0},
		{"a{20,}", "a{20,}", 0},
		{"a{0,20}", "a{0,20}", 0},
		{"a{20,20}", "a{20}", 0},
		{".*[a]+(b)?(?:c){3}", ".*[a]+(b)?(?:c){3}", 1},
		{`\**`, `\**`, 0},
		{`\x41{2}`, "A{2}", 0},
		{"a{1}1", "a{1}1", 0},
	})
}

func TestPrintLists(t *testing.T) {
	checkPrinted(t, []printed{
		{"[a]", "[a]", 0},
		{"[^a]", "[^a]", 0},
		{"[ab]", "[ab]", 0},
		{"[a-b]", "[ab]", 0},
		{"[a-a]", "[a]", 0},
		{"[abc]", "[a-c]", 0},
		{"[cab]", "[a-c]", 0},
		{"[aaa]", "[a]", 0},
		{"[zya]", "[ayz]", 0},
		{"[x-za-c]", "[a-cx-z]", 0},
		{"[a-cb-e]", "[a-e]", 0},
		{"[a-ec]", "[a-e]", 0},
		{"[a-cd-f]", "[a-f]", 0},
		{"[d-fa-c]", "[a-f]", 0},
		{"[a-ce-g]", "[a-ce-g]", 0},
		{"[a-bd-e]", "[abde]", 0},
		{"[^z0-9a]", "[^0-9az]", 0},
		{`[\-\^]`, `[\-\^]`, 0},
		{`[^\^]`, `[^\^]`, 0},
		{`[\+-\-]`, `[\+-\-]`, 0},
		{`[\--/]`, `[\--/]`, 0},
		{`[,-\.]`, `[,-\.]`, 0},
		{`[\\\(\)\[\]\{\}\*\+\?\|\.]`, `[\(-\+\.\?\[-\]\{-\}]`, 0},
		{`[\n\t\x0b]`, `[\t-\x0b]`, 0},
		{`[\t\n]`, `[\t\n]`, 0},
		{`[\x00-\xff]`, `[\x00-\xff]`, 0},
		{`[^\x00-\xff]`, `[^\x00-\xff]`, 0},
		{`[\xfe\xff\x00\x01]`, `[\x00\x01\xfe\xff]`, 0},
		{`[\xfd-\xff]`, `[\xfd-\xff]`, 0},
		{"[\x00-\x20]", `[\x00-\x20]`, 0},
		{"[ -~]", `[\x20-~]`, 0},
		{"[,:=!\"]", `[!",:=]`, 0},
		{`[\x61-\x63]`, "[a-c]", 0},
		{`[\?]`, `[\?]`, 0},
	})
}

func TestPrintGroups(t *testing.T) {
	checkPrinted(t, []printed{
		{"()", "()", 1},
		{"(?:)", "(?:)", 0},
		{"(a)", "(a)", 1},
		{"(?:a)", "(?:a)", 0},
		{"(:)", "(:)", 1},
		{"((a)(?:b(c)))", "((a)(?:b(c)))", 3},
		{`\(a\)`, `\(a\)`, 0},
		{"(a{0}){0}", "(a{0}){0}", 1},
		{"(a|ab)(c|bcd)(d*)", "(a|ab)(c|bcd)(d*)", 3},
		{"([a-z]+)=([0-9]*)", "([a-z]+)=([0-9]*)", 2},
	})
}

func TestPrintChoices(t *testing.T) {
	checkPrinted(t, []printed{
		{"a|b", "a|b", 0},
		{"|", "|", 0},
		{"||", "||", 0},
		{"a|", "a|", 0},
		{"|a", "|a", 0},
		{"a||b", "a||b", 0},
		{"(|)", "(|)", 1},
		{"(?:|a|)*", "(?:|a|)*", 0},
		{"a(b|c(d|))|e", "a(b|c(d|))|e", 2},
		{`[a-cb\-]{1,}|`, `[\-a-c]+|`, 0},
	})
}

// A text may be printed with more bytes than a pattern may have.
func TestPrintLongerThanPattern(t *testing.T) {
	checkPrinted(t, []printed{{strings.Repeat(" ", 60), strings.Repeat(`\x20`, 60), 0}})
}

func TestPrintBytes(t *testing.T) {
	for b := range 256 {
		one := string([]byte{byte(b)})
		if strings.Contains(`\()[]{}*+?|.`, one) {
			checkPrinted(t, []printed{{`\` + one, `\` + one, 0}, {`[\` + one + `]`, `[\` + one + `]`, 0}})
			continue
		}
		want := one
		switch {
		case b == 10:
			want = `\n`
		case b == 9:
			want = `\t`
		case b < 33 || b > 126:
			want = `\x` + string("0123456789abcdef"[b/16]) + string("0123456789abcdef"[b%16])
		}
		checkPrinted(t, []printed{{one, want, 0}})
		if one == "-" || one == "^" {
			checkPrinted(t, []printed{{`[\` + one + `]`, `[\` + one + `]`, 0}})
		} else {
			checkPrinted(t, []printed{{"[" + one + "]", "[" + want + "]", 0}})
		}
	}
}
