package memory

import "testing"

func TestMemory(t *testing.T) {
	var m Memory[string, int]
	if value, ok := m.Ask("a"); value != 0 || ok {
		t.Errorf("an empty memory answers %d, %v", value, ok)
	}
	m.Keep("a", 1)
	m.Keep("b", 0)
	m.Keep("a", 2)
	if value, ok := m.Ask("a"); value != 2 || !ok {
		t.Errorf("a: %d, %v", value, ok)
	}
	if value, ok := m.Ask("b"); value != 0 || !ok {
		t.Errorf("b: %d, %v", value, ok)
	}
	if value, ok := m.Ask("c"); value != 0 || ok {
		t.Errorf("c: %d, %v", value, ok)
	}
}

func TestMemoryOfOtherTypes(t *testing.T) {
	type key struct{ a, b int }
	var m, other Memory[key, [2]uint64]
	m.Keep(key{1, 2}, [2]uint64{3, 4})
	if value, ok := m.Ask(key{1, 2}); value != [2]uint64{3, 4} || !ok {
		t.Errorf("%v, %v", value, ok)
	}
	if _, ok := m.Ask(key{2, 1}); ok {
		t.Errorf("a key that was not kept is known")
	}
	if _, ok := other.Ask(key{1, 2}); ok {
		t.Errorf("one memory knows what another one keeps")
	}
}
