package scribe_test

import (
	"math/rand/v2"
	"strings"
	"testing"

	"scribe/api"
	"scribe/scribe"
)

// recordsOf is what a whole stream must tell, by the document's words.
func recordsOf(pattern string, limit int, text string) []api.Record {
	lines := strings.Split(text, "\n")
	if lines[len(lines)-1] == "" {
		lines = lines[:len(lines)-1]
	}
	r := ruledOf(pattern)
	var records []api.Record
	from := 0
	for number, line := range lines {
		records = append(records, recordOf(r, limit, line, number, from))
		from += len(line) + len("\n")
	}
	return records
}

func recordOf(r ruled, limit int, line string, number, from int) api.Record {
	if len(line) > limit {
		return record(number, from, len(line), api.TooLong)
	}
	spans := r.spans(&trial{line, map[asked]outcome{}}, len(line))
	if spans == nil {
		return record(number, from, len(line), api.Other)
	}
	var places []int
	for _, s := range spans {
		if s.From == -1 {
			places = append(places, -1, -1)
		} else {
			places = append(places, from+s.From, from+s.To)
		}
	}
	return record(number, from, len(line), api.Matched, places...)
}

// checkPieces looks at all that a stream tells, piece by piece: each record with the piece that ends it.
func checkPieces(t *testing.T, p *scribe.Pattern, limit int, pieces []string, want []api.Record) {
	t.Helper()
	s := opened(t, p, limit)
	told, open := 0, 0
	for i, piece := range pieces {
		over := strings.Count(piece, "\n")
		got := fed(t, s, piece)
		if !sameRecords(got, want[told:told+over]) {
			t.Errorf("P9: with the limit %d, piece %d of %q tells %v, want %v", limit, i, pieces, got, want[told:told+over])
		}
		told += over
		if over > 0 {
			open = 0
		}
		open += len(piece) - (strings.LastIndex(piece, "\n") + 1)
		checkHeld(t, s, min(open, limit), "behind "+piece)
	}
	if got := closed(t, s); !sameRecords(got, want[told:]) {
		t.Errorf("P9: with the limit %d, the end of %q tells %v, want %v", limit, pieces, got, want[told:])
	}
	checkHeld(t, s, 0, "of a closed stream")
}

// cutAt cuts a text ahead of its second byte if the lowest bit is set, and so on.
func cutAt(text string, bits int) []string {
	var pieces []string
	from := 0
	for at := 1; at < len(text); at++ {
		if bits>>(at-1)&1 == 1 {
			pieces = append(pieces, text[from:at])
			from = at
		}
	}
	return append(pieces, text[from:])
}

// withEmpty puts empty pieces ahead of all pieces, between them and behind.
func withEmpty(pieces []string) []string {
	out := []string{"", ""}
	for _, piece := range pieces {
		out = append(out, piece, "")
	}
	return out
}

func checkAllCuts(t *testing.T, pattern string, limit int, text string) {
	t.Helper()
	p := compiled(t, pattern)
	want := recordsOf(pattern, limit, text)
	for bits := range 1 << max(len(text)-1, 0) {
		pieces := cutAt(text, bits)
		checkPieces(t, p, limit, pieces, want)
		checkPieces(t, p, limit, withEmpty(pieces), want)
	}
}

func TestAllCutsOfShortStreams(t *testing.T) {
	t.Parallel()
	for _, text := range textsOf("ab\n", 5) {
		for limit := range 4 {
			for _, pattern := range []string{"(a)*(b)?", "(?:(a)|(b)a*)+", "a.*|"} {
				checkAllCuts(t, pattern, limit, text)
			}
		}
	}
}

func TestAllCutsOfLongerStreams(t *testing.T) {
	t.Parallel()
	for _, text := range []string{"ab=12\nx\nq=", "\n\nab=1\n\nq\n", "ab=1234567", "q=1\n\n\nq=", "aaa\nb=1\ncc="} {
		for _, limit := range []int{0, 1, 4, 5, 6, 100} {
			checkAllCuts(t, "([a-z]+)=([0-9]*)", limit, text)
		}
	}
}

// someCut cuts a text into pieces of chosen sizes, empty ones too.
func someCut(random *rand.Rand, text string, most int) []string {
	var pieces []string
	for len(text) > 0 {
		size := min(random.IntN(most+1), len(text))
		pieces = append(pieces, text[:size])
		text = text[size:]
	}
	return pieces
}

// linesOf is a text of records, most of which are about as long as the limit.
func linesOf(random *rand.Rand, of string, limit, count int) string {
	var s strings.Builder
	for range random.IntN(count + 1) {
		s.WriteString(letters(random, of, random.IntN(limit+3)))
		s.WriteString("\n")
	}
	return s.String() + letters(random, of, limit+1)
}

func TestMixedStreams(t *testing.T) {
	t.Parallel()
	pieces := []string{"a", "b", ".", "[ab]", "[^a]", "a*", ".*", "(", "(", "(?:", "(a|", ")", ")*", ")+", ")?", "){2}", "){0,3}", "*", "+", "?", "{2}", "|"}
	mixedPatterns(3, 400, 12, pieces, func(random *rand.Rand, pattern string) {
		p := compiled(t, pattern)
		limit := random.IntN(13)
		text := linesOf(random, "aab", limit, 12)
		want := recordsOf(pattern, limit, text)
		checkPieces(t, p, limit, []string{text}, want)
		checkPieces(t, p, limit, strings.Split(text, ""), want)
		for _, most := range []int{1, 2, 5, 20} {
			checkPieces(t, p, limit, someCut(random, text, most), want)
		}
	})
}

func TestStreamsOfAnyBytes(t *testing.T) {
	t.Parallel()
	random := rand.New(rand.NewPCG(7, 8))
	for range 30 {
		b := make([]byte, random.IntN(1000))
		for i := range b {
			b[i] = byte(random.Uint32())
			if random.IntN(40) == 0 {
				b[i] = '\n'
			}
		}
		limit := random.IntN(api.MaxText + 1)
		for _, pattern := range []string{"(.*)([a-z])?", `([^\x80-\xff]|(.)[\x80-\xff])*`, `([\x00-\xff]{2})*`} {
			p := compiled(t, pattern)
			want := recordsOf(pattern, limit, string(b))
			checkPieces(t, p, limit, []string{string(b)}, want)
			checkPieces(t, p, limit, someCut(random, string(b), 70), want)
		}
	}
}
