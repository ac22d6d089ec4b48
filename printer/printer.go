// Package printer: patterns as text, each in one form only.
package printer

import (
	"strconv"
	"strings"

	"scribe/tree"
)

const hexDigits = "0123456789abcdef"

// Print is the node as text.
func Print(n *tree.Node) string {
	var out strings.Builder
	write(&out, n)
	return out.String()
}

func write(out *strings.Builder, n *tree.Node) {
	switch n.Kind {
	case tree.KindByte:
		writeByte(out, n.Byte, tree.Signs)
	case tree.KindAny:
		out.WriteByte('.')
	case tree.KindList:
		writeList(out, n)
	case tree.KindGroup:
		writeGroup(out, n)
	case tree.KindTurns:
		write(out, n.Parts[0])
		writeCount(out, n.Least, n.Most)
	case tree.KindRow:
		writeAll(out, "", n.Parts...)
	case tree.KindChoice:
		writeAll(out, "|", n.Parts...)
	}
}

func writeAll(out *strings.Builder, between string, parts ...*tree.Node) {
	for i, part := range parts {
		if i > 0 {
			out.WriteString(between)
		}
		write(out, part)
	}
}

func writeGroup(out *strings.Builder, n *tree.Node) {
	out.WriteByte('(')
	if n.Number == 0 {
		out.WriteString("?:")
	}
	write(out, n.Parts[0])
	out.WriteByte(')')
}

func writeByte(out *strings.Builder, b byte, signs string) {
	switch {
	case b == '\n':
		out.WriteString(`\n`)
	case b == '\t':
		out.WriteString(`\t`)
	case b < 33 || b > 126:
		out.WriteString(`\x`)
		out.WriteByte(hexDigits[b>>4])
		out.WriteByte(hexDigits[b&15])
	case strings.IndexByte(signs, b) >= 0:
		out.WriteByte('\\')
		out.WriteByte(b)
	default:
		out.WriteByte(b)
	}
}

func writeList(out *strings.Builder, n *tree.Node) {
	out.WriteByte('[')
	if n.Not {
		out.WriteByte('^')
	}
	for b := 0; b < 256; b++ {
		if n.Set.Has(byte(b)) {
			last := runEnd(&n.Set, b)
			writeItem(out, byte(b), byte(last))
			b = last
		}
	}
	out.WriteByte(']')
}

// runEnd is the last of the bytes of the set that go on one behind the other from b on.
func runEnd(set *tree.Set, b int) int {
	for b < 255 && set.Has(byte(b+1)) {
		b++
	}
	return b
}

func writeItem(out *strings.Builder, first, last byte) {
	writeByte(out, first, tree.ListSigns)
	if first == last {
		return
	}
	if last-first > 1 {
		out.WriteByte('-')
	}
	writeByte(out, last, tree.ListSigns)
}

func writeCount(out *strings.Builder, least, most int) {
	switch {
	case least == 0 && most == tree.Endless:
		out.WriteByte('*')
	case least == 1 && most == tree.Endless:
		out.WriteByte('+')
	case least == 0 && most == 1:
		out.WriteByte('?')
	default:
		writeBounds(out, least, most)
	}
}

func writeBounds(out *strings.Builder, least, most int) {
	out.WriteByte('{')
	out.WriteString(strconv.Itoa(least))
	if most != least {
		out.WriteByte(',')
	}
	if most != least && most != tree.Endless {
		out.WriteString(strconv.Itoa(most))
	}
	out.WriteByte('}')
}
