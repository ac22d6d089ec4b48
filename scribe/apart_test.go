package scribe_test

import (
	"bytes"
	"math/rand/v2"
	"slices"
	"strings"
	"sync"
	"testing"

	"scribe/api"
	"scribe/scribe"
)

func cloneRecords(records []api.Record) []api.Record {
	records = slices.Clone(records)
	for i := range records {
		records[i].Spans = slices.Clone(records[i].Spans)
	}
	return records
}

// spoilRecords does with an answer what its owner may: it writes into all of its lists, and into their spare room.
func spoilRecords(records []api.Record) {
	records = records[:cap(records)]
	for i := range records {
		spoil(records[i].Spans)
		spoilInPlace(records[i].Spans)
		records[i] = record(88, 88, 88, 88, 88, 88)
	}
}

// guarded is a piece in the midst of other bytes, to some of which its spare room reaches.
func guarded(piece []byte) (all, b []byte) {
	all = slices.Concat([]byte("<<"), piece, []byte(">>>>>>>>"))
	return all, all[2 : 2+len(piece) : len(all)-2]
}

func TestPiecesStayTheCallers(t *testing.T) {
	const pattern, limit, text = "(a*)(b*)", 5, "aab\nb\n\naabbb\nabababab\nab"
	p := compiled(t, pattern)
	want := recordsOf(pattern, limit, text)
	for size := range len(text) {
		s := opened(t, p, limit)
		var got []api.Record
		var mine, as [][]byte
		for piece := range slices.Chunk([]byte(text), size+1) {
			all, b := guarded(piece)
			before := bytes.Clone(all)
			records, code := s.Feed(b)
			if !bytes.Equal(all, before) || code != api.OK {
				t.Errorf("P2: Feed(%q): %d, and the bytes are %q", piece, code, all)
			}
			got = append(got, records...)
			for i := range all {
				all[i] = "a\nb"[i%3]
			}
			mine, as = append(mine, all), append(as, bytes.Clone(all))
		}
		if got = append(got, closed(t, s)...); !sameRecords(got, want) {
			t.Errorf("P2: with bytes that are written over behind Feed: %v, want %v", got, want)
		}
		if !slices.EqualFunc(mine, as, bytes.Equal) {
			t.Errorf("P2: bytes of earlier pieces were changed: %q, want %q", mine, as)
		}
	}
}

// No list of an answer shows what is written to another one of it, nor to its spare room.
func TestListsOfOneAnswer(t *testing.T) {
	for _, pattern := range []string{"", ".*", "(a*)(b*)", "(a)(b)?(c)?(d)?(e)?(f)?(g)?(h)?(i)?|(?:)"} {
		p := compiled(t, pattern)
		for count := range 12 {
			text := strings.Repeat("a\n\nab\nabababab\n", count)
			want := recordsOf(pattern, 6, text)
			for i := range want {
				s := opened(t, p, 6)
				got := fed(t, s, text)
				if !sameRecords(got, want) {
					t.Fatalf("P7: %v, want %v", got, want)
				}
				spoil(got[i].Spans)
				spoilInPlace(got[i].Spans)
				got[i], want[i] = api.Record{}, api.Record{}
				if !sameRecords(got, want) {
					t.Errorf("P2: what is written to the record %d shows in others: %v, want %v", i, got, want)
				}
				want = recordsOf(pattern, 6, text)
			}
		}
	}
}

// answersOf is all answers of a stream, each of which is handed on at once.
func answersOf(t *testing.T, s *scribe.Stream, pieces []string, each func(records []api.Record)) [][]api.Record {
	t.Helper()
	var answers [][]api.Record
	for _, piece := range pieces {
		answers = append(answers, fed(t, s, piece))
		each(answers[len(answers)-1])
	}
	answers = append(answers, closed(t, s))
	each(answers[len(answers)-1])
	return answers
}

// What is written to one answer shows in no other one, earlier or later.
func TestAnswersOfStreams(t *testing.T) {
	const pattern, limit, text = "(a*)(b)?", 4, "aab\n\nb\naaaaaa\nabb\na\naaa\n\n\nab\nb"
	p := compiled(t, pattern)
	want := recordsOf(pattern, limit, text)
	for size := range len(text) {
		var pieces []string
		for piece := range slices.Chunk([]byte(text), size+1) {
			pieces = append(pieces, string(piece))
		}
		var got []api.Record
		answersOf(t, opened(t, p, limit), pieces, func(records []api.Record) {
			got = append(got, cloneRecords(records)...)
			spoilRecords(records)
		})
		if !sameRecords(got, want) {
			t.Errorf("P2: what is written to an answer shows in a later one: %v, want %v", got, want)
		}
		answers := answersOf(t, opened(t, p, limit), pieces, func(records []api.Record) {})
		for i := range answers {
			if got := slices.Concat(answers[i:]...); !sameRecords(got, want) {
				t.Errorf("P2: what is written to an answer shows in another one: %v, want %v", got, want)
			}
			want = want[len(answers[i]):]
			spoilRecords(answers[i])
		}
		want = recordsOf(pattern, limit, text)
	}
}

// side is a stream beside others of its pattern: what it is still to be fed, and what it told.
type side struct {
	stream *scribe.Stream
	pieces []string
	got    []api.Record
	want   []api.Record
}

// goOn feeds the next piece; behind the last one it closes the stream, and answers false.
func (s *side) goOn(t *testing.T) bool {
	t.Helper()
	if len(s.pieces) == 0 {
		s.got = append(s.got, closed(t, s.stream)...)
		checkClosed(t, s.stream)
		return false
	}
	s.got = append(s.got, fed(t, s.stream, s.pieces[0])...)
	s.pieces = s.pieces[1:]
	return true
}

func sidesOf(t *testing.T, random *rand.Rand, p *scribe.Pattern, pattern string, count int) []*side {
	t.Helper()
	var sides []*side
	for range count {
		limit := random.IntN(9)
		text := linesOf(random, "aabb", limit, 9)
		sides = append(sides, &side{stream: opened(t, p, limit), pieces: someCut(random, text, 6), want: recordsOf(pattern, limit, text)})
	}
	return sides
}

func TestStreamsSideBySide(t *testing.T) {
	random := rand.New(rand.NewPCG(9, 10))
	for _, pattern := range []string{"(a*)(b*)", "(?:(a)|(b))*", "(.)(.)?(.)?", "a(b*)|b(a*)|"} {
		p := compiled(t, pattern)
		match, _ := p.Match("ab")
		for range 40 {
			sides := sidesOf(t, random, p, pattern, 1+random.IntN(5))
			for open := slices.Clone(sides); len(open) > 0; {
				i := random.IntN(len(open))
				if !open[i].goOn(t) {
					open = slices.Delete(open, i, i+1)
				}
				if again, _ := p.Match("ab"); !slices.Equal(again, match) {
					t.Errorf("P5: Match of %q beside streams = %v, want %v", pattern, again, match)
				}
			}
			for _, s := range sides {
				if !sameRecords(s.got, s.want) {
					t.Errorf("P2: of %q, beside other streams: %v, want %v", pattern, s.got, s.want)
				}
			}
		}
	}
}

// Streams of one pattern may also go on at the same time.
func TestStreamsAtTheSameTime(t *testing.T) {
	const pattern = "((a)|(b*)a)*(.)?"
	sides := sidesOf(t, rand.New(rand.NewPCG(11, 12)), compiled(t, pattern), pattern, 50)
	var group sync.WaitGroup
	for _, s := range sides {
		group.Go(func() {
			for s.goOn(t) {
			}
		})
	}
	group.Wait()
	for _, s := range sides {
		if !sameRecords(s.got, s.want) {
			t.Errorf("P2: of %q, at the same time as others: %v, want %v", pattern, s.got, s.want)
		}
	}
}
