package matcher

import "scribe/api"

// places is some of the places of a text, a bit each: from 0 to the text's length, which is MaxText at most.
type places [api.MaxText/64 + 1]uint64

func (p *places) add(at int) {
	p[at/64] |= 1 << (at % 64)
}

func (p *places) addAll(others places) {
	for i := range p {
		p[i] |= others[i]
	}
}

func (p *places) has(at int) bool {
	return p[at/64]>>(at%64)&1 == 1
}
