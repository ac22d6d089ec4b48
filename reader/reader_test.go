package reader

import (
	"testing"

	"scribe/api"
	"scribe/tree"
)

func TestReadTree(t *testing.T) {
	root, told, fault := Read(`a(?:b|(\n)){2,}|`)
	if fault != (Fault{}) || told != 1 {
		t.Fatalf("told %d, fault %v", told, fault)
	}
	if root.Kind != tree.KindChoice || len(root.Parts) != 2 || len(root.Parts[1].Parts) != 0 {
		t.Fatalf("the root is %v", root)
	}
	turns := root.Parts[0].Parts[1]
	if turns.Kind != tree.KindTurns || turns.Least != 2 || turns.Most != tree.Endless {
		t.Fatalf("the turns are %v", turns)
	}
	quiet := turns.Parts[0]
	if quiet.Kind != tree.KindGroup || quiet.Number != 0 {
		t.Fatalf("the group that is not told is %v", quiet)
	}
	group := quiet.Parts[0].Parts[1].Parts[0]
	if group.Kind != tree.KindGroup || group.Number != 1 {
		t.Fatalf("the group that is told is %v", group)
	}
	if leaf := group.Parts[0].Parts[0].Parts[0]; leaf.Kind != tree.KindByte || leaf.Byte != '\n' {
		t.Fatalf("the byte is %v", leaf)
	}
}

func TestGroupsAreNumberedByTheirOpening(t *testing.T) {
	root, told, _ := Read("((a)(?:))(b)")
	outer, last := root.Parts[0].Parts[0], root.Parts[0].Parts[1]
	inner := outer.Parts[0].Parts[0].Parts
	if told != 3 || outer.Number != 1 || inner[0].Number != 2 || inner[1].Number != 0 || last.Number != 3 {
		t.Errorf("told %d, numbers %d, %d, %d, %d", told, outer.Number, inner[0].Number, inner[1].Number, last.Number)
	}
}

func TestListsHaveTheirItems(t *testing.T) {
	root, _, _ := Read(`[^a-c\xff]`)
	list := root.Parts[0].Parts[0]
	var want tree.Set
	want.Add('a', 'c')
	want.Add(255, 255)
	if list.Kind != tree.KindList || !list.Not || list.Set != want {
		t.Errorf("the list is %v", list)
	}
}

func TestFaultLeavesNothing(t *testing.T) {
	for pattern, want := range map[string]Fault{
		"(a)(b": {api.ErrSyntax, 5}, "(a){21}": {api.ErrCount, 4}, "(a{20}){20}": {api.ErrSize, 0},
	} {
		if root, told, fault := Read(pattern); root != nil || told != 0 || fault != want {
			t.Errorf("Read(%q) = %v, %d, %v, want %v", pattern, root, told, fault, want)
		}
	}
}
