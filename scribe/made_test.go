package scribe_test

import (
	"fmt"
	"math/rand/v2"
	"strings"
	"testing"

	"scribe/api"
)

// maker makes patterns at random, each in two forms: as somebody may write it, and as it must be printed.
type maker struct {
	*rand.Rand
	told int
}

// made is a part of a pattern in both forms, with its size.
type made struct {
	written, printed string
	size             int
}

func (m *maker) choice(deep int) made {
	whole := m.row(deep)
	for m.IntN(3) == 0 {
		next := m.row(deep)
		whole = made{whole.written + "|" + next.written, whole.printed + "|" + next.printed, whole.size + next.size}
	}
	return whole
}

func (m *maker) row(deep int) made {
	var whole made
	for range m.IntN(4) {
		next := m.counted(m.atom(deep))
		whole = made{whole.written + next.written, whole.printed + next.printed, whole.size + next.size}
	}
	return whole
}

func (m *maker) atom(deep int) made {
	switch kind := m.IntN(8); {
	case kind == 0 && deep < 4:
		inner := m.choice(deep + 1)
		return made{"(?:" + inner.written + ")", "(?:" + inner.printed + ")", max(inner.size, 1)}
	case kind == 1 && deep < 4 && m.told < api.MaxGroups:
		m.told++
		inner := m.choice(deep + 1)
		return made{"(" + inner.written + ")", "(" + inner.printed + ")", max(inner.size, 1)}
	case kind == 2:
		return made{".", ".", 1}
	case kind < 5:
		return m.list()
	}
	b := m.byte()
	return made{m.write(b, false), printByte(b, false), 1}
}

func (m *maker) byte() byte {
	if m.IntN(2) == 0 {
		return `\()[]{}*+?|.-^nt`[m.IntN(16)]
	}
	return byte(m.IntN(256))
}

// write writes the byte in one of the forms that it has.
func (m *maker) write(b byte, inList bool) string {
	signs := `\()[]{}*+?|.`
	if inList {
		signs += "-^"
	}
	isSign := strings.IndexByte(signs, b) >= 0
	switch kind := m.IntN(4); {
	case kind == 0:
		return fmt.Sprintf(`\x%02x`, b)
	case kind == 1:
		return fmt.Sprintf(`\x%02X`, b)
	case kind == 2 && b == '\n':
		return `\n`
	case kind == 2 && b == '\t':
		return `\t`
	case isSign, kind == 2 && (b == '-' || b == '^'):
		return `\` + string([]byte{b})
	}
	return string([]byte{b})
}

func printByte(b byte, inList bool) string {
	switch {
	case b == '\n':
		return `\n`
	case b == '\t':
		return `\t`
	case b <= 32 || b >= 127:
		return fmt.Sprintf(`\x%02x`, b)
	case strings.IndexByte(`\()[]{}*+?|.`, b) >= 0, inList && (b == '-' || b == '^'):
		return `\` + string([]byte{b})
	}
	return string([]byte{b})
}

func (m *maker) list() made {
	var in [257]bool // the last one is never in: every run ends ahead of it
	hat := []string{"", "^"}[m.IntN(2)]
	written := "[" + hat
	for range 1 + m.IntN(4) {
		first := m.byte()
		last := byte(min(int(first)+m.IntN(4), 255))
		for b := int(first); b <= int(last); b++ {
			in[b] = true
		}
		written += m.write(first, true)
		if first != last || m.IntN(3) == 0 {
			written += "-" + m.write(last, true)
		}
	}
	return made{written + "]", "[" + hat + printRuns(in) + "]", 1}
}

func printRuns(in [257]bool) string {
	var out string
	from := -1
	for b, is := range in {
		if is && from < 0 {
			from = b
		}
		if is || from < 0 {
			continue
		}
		out += printByte(byte(from), true)
		if b-from > 2 {
			out += "-"
		}
		if b-from > 1 {
			out += printByte(byte(b-1), true)
		}
		from = -1
	}
	return out
}

func (m *maker) counted(atom made) made {
	forms := []struct {
		written, printed string
		times            int
	}{
		{"", "", 1}, {"", "", 1}, {"", "", 1}, {"*", "*", 1}, {"+", "+", 1}, {"?", "?", 1},
		{"{0,}", "*", 1}, {"{1,}", "+", 1}, {"{0,1}", "?", 1},
		{"{0}", "{0}", 0}, {"{0,0}", "{0}", 0}, {"{1}", "{1}", 1}, {"{1,1}", "{1}", 1},
		{"{3}", "{3}", 3}, {"{3,3}", "{3}", 3}, {"{2,}", "{2,}", 2}, {"{0,2}", "{0,2}", 2}, {"{1,20}", "{1,20}", 20},
	}
	form := forms[m.IntN(len(forms))]
	return made{atom.written + form.written, atom.printed + form.printed, atom.size * form.times}
}

func TestMadePatterns(t *testing.T) {
	taken := 0
	for seed := range uint64(20000) {
		m := maker{Rand: rand.New(rand.NewPCG(seed, 0))}
		c := m.choice(0)
		if len(c.written) > api.MaxPattern {
			continue
		}
		if c.size > api.MaxSize {
			checkFaults(t, []faulty{{c.written, api.ErrSize, 0}})
			continue
		}
		taken++
		checkPrinted(t, []printed{{c.written, c.printed, m.told}})
		if len(c.printed) <= api.MaxPattern {
			checkPrinted(t, []printed{{c.printed, c.printed, m.told}})
		}
	}
	if taken < 10000 {
		t.Errorf("only %d patterns were taken", taken)
	}
}
