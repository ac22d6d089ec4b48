// Package memory: what was found out once need not be found out again.
package memory

// Memory holds a value for each key that it was given. The zero value is empty.
type Memory[K comparable, V any] struct {
	known map[K]V
}

// Keep holds the value, in place of one that the key had.
func (m *Memory[K, V]) Keep(key K, value V) {
	if m.known == nil {
		m.known = make(map[K]V)
	}
	m.known[key] = value
}

// Ask answers the value that is held for the key, and whether there is one.
func (m *Memory[K, V]) Ask(key K) (V, bool) {
	value, ok := m.known[key]
	return value, ok
}
