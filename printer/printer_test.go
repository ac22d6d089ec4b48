package printer

import (
	"testing"

	"scribe/tree"
)

func TestPrint(t *testing.T) {
	a, dash := tree.Byte('a'), tree.Byte('-')
	var runs, all tree.Set
	runs.Add('-', '-')
	runs.Add('a', 'b')
	runs.Add('d', 'f')
	all.Add(0, 255)
	for _, c := range []struct {
		node *tree.Node
		want string
	}{
		{tree.Choice(tree.Row()), ""},
		{tree.Choice(tree.Row(), tree.Row(a, dash), tree.Row()), "|a-|"},
		{tree.Group(0, tree.Choice(tree.Row(a))), "(?:a)"},
		{tree.Group(3, tree.Choice(tree.Row(a), tree.Row())), "(a|)"},
		{tree.List(runs, false), `[\-abd-f]`},
		{tree.List(all, true), `[^\x00-\xff]`},
		{tree.Any(), "."}, {tree.Byte('.'), `\.`}, {tree.Byte(32), `\x20`}, {tree.Byte(127), `\x7f`}, {tree.Byte(10), `\n`}, {tree.Byte(9), `\t`},
		{tree.Turns(a, 0, tree.Endless), "a*"}, {tree.Turns(a, 1, tree.Endless), "a+"}, {tree.Turns(a, 2, tree.Endless), "a{2,}"},
		{tree.Turns(a, 0, 1), "a?"}, {tree.Turns(a, 0, 0), "a{0}"}, {tree.Turns(a, 1, 1), "a{1}"}, {tree.Turns(a, 9, 12), "a{9,12}"},
	} {
		if got := Print(c.node); got != c.want {
			t.Errorf("Print = %q, want %q", got, c.want)
		}
	}
}
