package tree

import (
	"testing"

	"scribe/api"
)

func TestSetHasWhatWasAdded(t *testing.T) {
	var s Set
	s.Add(60, 70)
	s.Add(255, 255)
	s.Add(0, 0)
	s.Add(130, 129)
	for b := range 256 {
		want := b >= 60 && b <= 70 || b == 255 || b == 0
		if s.Has(byte(b)) != want {
			t.Errorf("Has(%d) = %v", b, !want)
		}
	}
	var all Set
	all.Add(0, 255)
	for b := range 256 {
		if !all.Has(byte(b)) {
			t.Errorf("all bytes, but not %d", b)
		}
	}
}

func TestSizes(t *testing.T) {
	a := Byte('a')
	five := Row(a, a, a, a, a)
	for _, c := range []struct {
		name string
		node *Node
		want int
	}{
		{"a byte", a, 1}, {"any", Any(), 1}, {"a list", List(Set{}, true), 1},
		{"no row", Choice(), 0}, {"an empty row", Row(), 0}, {"a row", five, 5}, {"a choice", Choice(five, Row(), Row(a)), 6},
		{"an empty group", Group(0, Choice(Row())), 1}, {"a group", Group(1, Choice(five)), 5},
		{"{0}", Turns(five, 0, 0), 0}, {"{0,}", Turns(five, 0, Endless), 5}, {"{1,}", Turns(five, 1, Endless), 5}, {"{3,}", Turns(five, 3, Endless), 15},
		{"{0,1}", Turns(five, 0, 1), 5}, {"{0,4}", Turns(five, 0, 4), 20}, {"{12}", Turns(five, 12, 12), api.MaxSize},
	} {
		if c.node.Size != c.want {
			t.Errorf("size of %s: %d, want %d", c.name, c.node.Size, c.want)
		}
	}
}

func TestSizesStayAboveMax(t *testing.T) {
	n := Byte('a')
	for range 100 {
		n = Turns(Group(0, Choice(Row(n, n))), api.MaxCount, api.MaxCount)
	}
	if n.Size <= api.MaxSize {
		t.Errorf("size of counts within counts: %d", n.Size)
	}
	if none := Turns(n, 0, 0); none.Size != 0 {
		t.Errorf("size of what is taken no times: %d", none.Size)
	}
}

func TestRowsAndChoicesKeepNoListOfOthers(t *testing.T) {
	a, b := Byte('a'), Byte('b')
	parts := []*Node{a, a}
	row, choice := Row(parts...), Choice(parts...)
	parts[0] = b
	if row.Parts[0] != a || choice.Parts[0] != a {
		t.Error("a node changes with the list that it was put together from")
	}
}
