package scribe_test

import (
	"math"
	"slices"
	"strings"
	"testing"

	"scribe/api"
	"scribe/scribe"
)

func opened(t *testing.T, p *scribe.Pattern, limit int) *scribe.Stream {
	t.Helper()
	s, code := p.Open(limit)
	if s == nil || code != api.OK {
		t.Fatalf("P7: Open(%d) = %v, %d, want a stream", limit, s, code)
	}
	return s
}

func fed(t *testing.T, s *scribe.Stream, piece string) []api.Record {
	t.Helper()
	records, code := s.Feed([]byte(piece))
	if code != api.OK {
		t.Errorf("P7: Feed(%q): %d", piece, code)
	}
	return records
}

func closed(t *testing.T, s *scribe.Stream) []api.Record {
	t.Helper()
	records, code := s.Close()
	if code != api.OK {
		t.Errorf("P7: Close: %d", code)
	}
	return records
}

func checkHeld(t *testing.T, s *scribe.Stream, want int, when string) {
	t.Helper()
	if held, code := s.Held(); held != want || code != api.OK {
		t.Errorf("P7: Held (%q) = %d, %d, want %d", when, held, code, want)
	}
}

// record has the places where its groups are as pairs.
func record(number, from, length, code int, places ...int) api.Record {
	return api.Record{Number: number, From: from, Len: length, Code: code, Spans: pairs(places)}
}

func sameRecords(a, b []api.Record) bool {
	return slices.EqualFunc(a, b, func(x, y api.Record) bool {
		return x.Number == y.Number && x.From == y.From && x.Len == y.Len && x.Code == y.Code && slices.Equal(x.Spans, y.Spans)
	})
}

// step is a piece, with the records that are over with it and how many bytes are held behind it.
type step struct {
	piece string
	held  int
	want  []api.Record
}

// flow is a case of a stream: its pieces, and the records that are over with its end.
type flow struct {
	pattern string
	limit   int
	steps   []step
	last    []api.Record
}

func checkFlows(t *testing.T, flows []flow) {
	t.Helper()
	for _, f := range flows {
		s := opened(t, compiled(t, f.pattern), f.limit)
		checkHeld(t, s, 0, "of a new stream")
		for i, c := range f.steps {
			if got := fed(t, s, c.piece); !sameRecords(got, c.want) {
				t.Errorf("P7: with %q and %d, step %d: Feed(%q) = %v, want %v", f.pattern, f.limit, i, c.piece, got, c.want)
			}
			checkHeld(t, s, c.held, "behind "+c.piece)
		}
		if got := closed(t, s); !sameRecords(got, f.last) {
			t.Errorf("P7: with %q and %d: Close = %v, want %v", f.pattern, f.limit, got, f.last)
		}
		checkClosed(t, s)
	}
}

func checkClosed(t *testing.T, s *scribe.Stream) {
	t.Helper()
	checkHeld(t, s, 0, "of a closed stream")
	for _, piece := range [][]byte{nil, {}, []byte("a"), []byte("\n"), []byte("a\nb\n")} {
		if got, code := s.Feed(piece); len(got) > 0 || code != api.ErrClosed {
			t.Errorf("P7: Feed(%q) of a closed stream = %v, %d, want ErrClosed", piece, got, code)
		}
		checkHeld(t, s, 0, "of a closed stream")
		if got, code := s.Close(); len(got) > 0 || code != api.ErrClosed {
			t.Errorf("P7: Close of a closed stream = %v, %d, want ErrClosed", got, code)
		}
	}
}

func TestStreamExample(t *testing.T) {
	first := record(0, 0, 5, api.Matched, 0, 5, 0, 2, 3, 5)
	second := record(1, 6, 1, api.Other)
	third := record(2, 8, 7, api.TooLong)
	last := []api.Record{record(3, 16, 2, api.Matched, 16, 18, 16, 17, 18, 18)}
	checkFlows(t, []flow{
		{"([a-z]+)=([0-9]*)", 6, []step{{"ab=12\nx\nabc=123\nq=", 2, []api.Record{first, second, third}}}, last},
		{"([a-z]+)=([0-9]*)", 6, []step{{"ab=12", 5, nil}, {"\n", 0, []api.Record{first}}, {"x", 1, nil}, {"\n", 0, []api.Record{second}}, {"abc=123", 6, nil}, {"\n", 0, []api.Record{third}}, {"q=", 2, nil}}, last},
		{"([a-z]+)=([0-9]*)", 6, []step{{"ab", 2, nil}, {"=12\nx\nabc", 3, []api.Record{first, second}}, {"=12", 6, nil}, {"3\nq", 1, []api.Record{third}}, {"=", 2, nil}}, last},
	})
}

func TestOpenLimits(t *testing.T) {
	p := compiled(t, "a*")
	for limit := -3; limit < api.MaxText+4; limit++ {
		want := api.ErrArg
		if limit >= 0 && limit <= api.MaxText {
			want = api.OK
		}
		if s, code := p.Open(limit); (s != nil) != (want == api.OK) || code != want {
			t.Errorf("P7: Open(%d) = %v, %d, want %d", limit, s, code, want)
		}
	}
	for _, limit := range []int{math.MinInt, math.MinInt32, -100, 1000, math.MaxInt32, math.MaxInt32 + 1, math.MaxInt, 1<<32 + 5, 256 + 5} {
		if s, code := p.Open(limit); s != nil || code != api.ErrArg {
			t.Errorf("P7: Open(%d) = %v, %d, want ErrArg", limit, s, code)
		}
	}
	if got := fed(t, opened(t, p, 3), "aaa\n"); !sameRecords(got, []api.Record{record(0, 0, 3, api.Matched, 0, 3)}) {
		t.Errorf("P1: behind limits that are refused: %v", got)
	}
}

func TestRecordsAtTheLimit(t *testing.T) {
	for limit := range api.MaxText + 1 {
		s := opened(t, compiled(t, "(a)*"), limit)
		number, from := 0, 0
		for _, length := range []int{limit, limit + 1, limit, 0, limit + 2, max(limit-1, 0), 3 * limit, 2*limit + 1, 5000, limit} {
			want := record(number, from, length, api.Matched, from, from+length, from+length-1, from+length)
			switch {
			case length > limit:
				want = record(number, from, length, api.TooLong)
			case length == 0:
				want = record(number, from, length, api.Matched, from, from, -1, -1)
			}
			if got := fed(t, s, strings.Repeat("a", length)); len(got) > 0 {
				t.Errorf("P7: with the limit %d: %v is told ahead of its end", limit, got)
			}
			checkHeld(t, s, min(length, limit), "of a record that is not over")
			if got := fed(t, s, "\n"); !sameRecords(got, []api.Record{want}) {
				t.Errorf("P7: with the limit %d: %v, want %v", limit, got, want)
			}
			checkHeld(t, s, 0, "behind a record")
			number++
			from += length + 1
		}
	}
}

// The last record is told as all others are.
func TestLastRecordAtTheLimit(t *testing.T) {
	for limit := range api.MaxText + 1 {
		for _, length := range []int{limit, limit + 1, 2*limit + 3} {
			s := opened(t, compiled(t, ".*"), limit)
			fed(t, s, "b\n"+strings.Repeat("a", length))
			checkHeld(t, s, limit, "of a record that is not over")
			var want []api.Record
			switch {
			case length > limit:
				want = []api.Record{record(1, 2, length, api.TooLong)}
			case length > 0:
				want = []api.Record{record(1, 2, length, api.Matched, 2, 2+length)}
			}
			if got := closed(t, s); !sameRecords(got, want) {
				t.Errorf("P7: with the limit %d: %v, want %v", limit, got, want)
			}
			checkClosed(t, s)
		}
	}
}

func TestEmptyRecords(t *testing.T) {
	at := func(number, from int) api.Record { return record(number, from, 0, api.Matched, from, from, -1, -1) }
	other := func(number, from int) api.Record { return record(number, from, 0, api.Other) }
	checkFlows(t, []flow{
		{"(a)*", 9, nil, nil},
		{"(a)*", 9, []step{{"", 0, nil}, {"", 0, nil}}, nil},
		{"(a)*", 9, []step{{"\n", 0, []api.Record{at(0, 0)}}}, nil},
		{"(a)*", 0, []step{{"\n", 0, []api.Record{at(0, 0)}}}, nil},
		{"(a)*", 9, []step{{"\n\n", 0, []api.Record{at(0, 0), at(1, 1)}}}, nil},
		{"(a)*", 9, []step{{"\n", 0, []api.Record{at(0, 0)}}, {"", 0, nil}, {"\n", 0, []api.Record{at(1, 1)}}, {"\n\n", 0, []api.Record{at(2, 2), at(3, 3)}}}, nil},
		{"(a)+", 9, []step{{"\n\n", 0, []api.Record{other(0, 0), other(1, 1)}}}, nil},
		{"(a)*", 9, []step{{"a\n\na", 1, []api.Record{record(0, 0, 1, api.Matched, 0, 1, 0, 1), at(1, 2)}}}, []api.Record{record(2, 3, 1, api.Matched, 3, 4, 3, 4)}},
		{"(a)*", 9, []step{{"a", 1, nil}, {"\n", 0, []api.Record{record(0, 0, 1, api.Matched, 0, 1, 0, 1)}}, {"\n", 0, []api.Record{at(1, 2)}}}, nil},
		{"", 0, []step{{"\n\n", 0, []api.Record{record(0, 0, 0, api.Matched, 0, 0), record(1, 1, 0, api.Matched, 1, 1)}}}, nil},
		{"", 0, []step{{"a", 0, nil}, {"\n", 0, []api.Record{record(0, 0, 1, api.TooLong)}}, {"\n", 0, []api.Record{record(1, 2, 0, api.Matched, 2, 2)}}, {"b", 0, nil}}, []api.Record{record(2, 3, 1, api.TooLong)}},
	})
}

func TestEndOfStream(t *testing.T) {
	a := []api.Record{record(0, 0, 1, api.Matched, 0, 1)}
	b := []api.Record{record(1, 2, 1, api.Matched, 2, 3)}
	checkFlows(t, []flow{
		{"a|b", 4, []step{{"a", 1, nil}}, a},
		{"a|b", 4, []step{{"a\n", 0, a}}, nil},
		{"a|b", 4, []step{{"a\nb", 1, a}}, b},
		{"a|b", 4, []step{{"a\nb\n", 0, slices.Concat(a, b)}}, nil},
		{"a|b", 4, []step{{"a\n", 0, a}, {"b", 1, nil}, {"\n", 0, b}, {"", 0, nil}}, nil},
		{"a|b", 4, []step{{"a\n", 0, a}, {"c", 1, nil}}, []api.Record{record(1, 2, 1, api.Other)}},
	})
}

func TestRecordsInPieces(t *testing.T) {
	want := []api.Record{record(0, 0, 6, api.Matched, 0, 6, 0, 3, 3, 6)}
	long := []api.Record{record(0, 0, 9, api.TooLong)}
	checkFlows(t, []flow{
		{"(a*)(b*)", 6, []step{{"a", 1, nil}, {"a", 2, nil}, {"", 2, nil}, {"ab", 4, nil}, {"b", 5, nil}, {"b", 6, nil}, {"\n", 0, want}}, nil},
		{"(a*)(b*)", 6, []step{{"aa", 2, nil}, {"abb", 5, nil}, {"b\naab", 3, want}, {"b", 4, nil}}, []api.Record{record(1, 7, 4, api.Matched, 7, 11, 7, 9, 9, 11)}},
		{"(a*)(b*)", 6, []step{{"aaab", 4, nil}, {"bb", 6, nil}}, want},
		// what comes beyond the limit, in pieces of any kind, is only counted
		{"(a*)(b*)", 6, []step{{"aaaabb", 6, nil}, {"b", 6, nil}, {"", 6, nil}, {"bb", 6, nil}, {"\n", 0, long}, {"ab\n", 0, []api.Record{record(1, 10, 2, api.Matched, 10, 12, 10, 11, 11, 12)}}}, nil},
		{"(a*)(b*)", 6, []step{{"aaaab", 5, nil}, {"bb", 6, nil}, {"bb\n", 0, long}}, nil},
		{"(a*)(b*)", 6, []step{{"aaaab", 5, nil}, {"bbbb", 6, nil}}, long},
	})
}

func TestRecordsBehindLongOnes(t *testing.T) {
	checkFlows(t, []flow{
		{"(.)(.)?", 2, []step{{"abc\nd\n\nefghij\nkl\nmno", 2, []api.Record{
			record(0, 0, 3, api.TooLong), record(1, 4, 1, api.Matched, 4, 5, 4, 5, -1, -1), record(2, 6, 0, api.Other), record(3, 7, 6, api.TooLong), record(4, 14, 2, api.Matched, 14, 16, 14, 15, 15, 16),
		}}}, []api.Record{record(5, 17, 3, api.TooLong)}},
		{"(.)(.)?", 2, []step{{strings.Repeat("x", 5000), 2, nil}, {strings.Repeat("y", 5000), 2, nil}, {"\nz", 1, []api.Record{record(0, 0, 10000, api.TooLong)}}}, []api.Record{record(1, 10001, 1, api.Matched, 10001, 10002, 10001, 10002, -1, -1)}},
	})
}

// Groups are at their places in the stream; what is nowhere stays so.
func TestGroupsOfRecords(t *testing.T) {
	checkFlows(t, []flow{
		{"((a)|(b)|(c)())*", 9, []step{{"ab\nca\n\nbbb\n", 0, []api.Record{
			record(0, 0, 2, api.Matched, 0, 2, 1, 2, 0, 1, 1, 2, -1, -1, -1, -1),
			record(1, 3, 2, api.Matched, 3, 5, 4, 5, 4, 5, -1, -1, 3, 4, 4, 4),
			record(2, 6, 0, api.Matched, 6, 6, -1, -1, -1, -1, -1, -1, -1, -1, -1, -1),
			record(3, 7, 3, api.Matched, 7, 10, 9, 10, -1, -1, 9, 10, -1, -1, -1, -1),
		}}}, nil},
		{"(x)?(a|ab)(c|bcd)(d*)", 9, []step{{"1\nabcd", 4, []api.Record{record(0, 0, 1, api.Other)}}}, []api.Record{record(1, 2, 4, api.Matched, 2, 6, -1, -1, 2, 4, 4, 5, 5, 6)}},
		{"(a){0}b", 9, []step{{"b\nb\n", 0, []api.Record{record(0, 0, 1, api.Matched, 0, 1, -1, -1), record(1, 2, 1, api.Matched, 2, 3, -1, -1)}}}, nil},
	})
}

func TestRecordsThatDoNotMatch(t *testing.T) {
	checkFlows(t, []flow{
		{"a", 3, []step{{"b\nab\nba\n\na\naa\nA\n", 0, []api.Record{record(0, 0, 1, api.Other), record(1, 2, 2, api.Other), record(2, 5, 2, api.Other), record(3, 8, 0, api.Other), record(4, 9, 1, api.Matched, 9, 10), record(5, 11, 2, api.Other), record(6, 14, 1, api.Other)}}}, nil},
		{`a\n`, 3, []step{{"a\n", 0, []api.Record{record(0, 0, 1, api.Other)}}, {"a", 1, nil}}, []api.Record{record(1, 2, 1, api.Other)}},
		{`[^\x00-\xff]`, 3, []step{{"\nx\n", 0, []api.Record{record(0, 0, 0, api.Other), record(1, 1, 1, api.Other)}}}, nil},
	})
}

// No byte but 10 ends a record.
func TestRecordsOfEachByte(t *testing.T) {
	for b := range 256 {
		if b == 10 {
			continue
		}
		s := opened(t, compiled(t, `([^\n]+)`), 3)
		one := string([]byte{byte(b)})
		if got := fed(t, s, one+one); len(got) > 0 {
			t.Errorf("P7: the byte %d ends a record: %v", b, got)
		}
		if got := fed(t, s, one+"\n"); !sameRecords(got, []api.Record{record(0, 0, 3, api.Matched, 0, 3, 0, 3)}) {
			t.Errorf("P7: of the byte %d: %v", b, got)
		}
	}
}

func TestNilStreams(t *testing.T) {
	var none *scribe.Pattern
	for _, limit := range []int{math.MinInt, -1, 0, 5, api.MaxText, api.MaxText + 1, math.MaxInt} {
		if s, code := none.Open(limit); s != nil || code != api.ErrNil {
			t.Errorf("P1: Open(%d) of nil = %v, %d, want ErrNil", limit, s, code)
		}
	}
	var s *scribe.Stream
	for _, piece := range [][]byte{nil, {}, []byte("a"), []byte("a\n")} {
		if got, code := s.Feed(piece); len(got) > 0 || code != api.ErrNil {
			t.Errorf("P1: Feed(%q) of nil = %v, %d, want ErrNil", piece, got, code)
		}
		if got, code := s.Close(); len(got) > 0 || code != api.ErrNil {
			t.Errorf("P1: Close of nil = %v, %d, want ErrNil", got, code)
		}
		if held, code := s.Held(); held != 0 || code != api.ErrNil {
			t.Errorf("P1: Held of nil = %d, %d, want 0 and ErrNil", held, code)
		}
	}
}

func TestPiecesOfNoBytes(t *testing.T) {
	s := opened(t, compiled(t, "a"), 1)
	for _, piece := range [][]byte{nil, {}} {
		if got, code := s.Feed(piece); len(got) > 0 || code != api.OK {
			t.Errorf("P7: Feed(%v) = %v, %d, want none and OK", piece, got, code)
		}
	}
	if got := fed(t, s, "a\n"); !sameRecords(got, []api.Record{record(0, 0, 1, api.Matched, 0, 1)}) {
		t.Errorf("P7: behind pieces of no bytes: %v", got)
	}
}

// Many records, and many bytes of one, in one piece.
func TestLargePieces(t *testing.T) {
	const count = 1 << 16
	s := opened(t, compiled(t, "(a?)"), 1)
	got := fed(t, s, strings.Repeat("\na\nbb\n", count))
	if len(got) != 3*count {
		t.Fatalf("P7: %d records, want %d", len(got), 3*count)
	}
	for i := range count {
		at := 6 * i
		want := []api.Record{record(3*i, at, 0, api.Matched, at, at, at, at), record(3*i+1, at+1, 1, api.Matched, at+1, at+2, at+1, at+2), record(3*i+2, at+3, 2, api.TooLong)}
		if !sameRecords(got[3*i:3*i+3], want) {
			t.Fatalf("P7: %v, want %v", got[3*i:3*i+3], want)
		}
	}
	if got := fed(t, s, strings.Repeat("c", 1<<22)); len(got) > 0 {
		t.Errorf("P7: %v is told ahead of its end", got)
	}
	checkHeld(t, s, 1, "of a long record")
	if got := closed(t, s); !sameRecords(got, []api.Record{record(3*count, 6*count, 1<<22, api.TooLong)}) {
		t.Errorf("P7: Close = %v", got)
	}
}
