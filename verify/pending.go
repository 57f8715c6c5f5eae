package verify

import "sort"

// pending is a heap of indexes of instructions: the smallest one comes first.
type pending struct{ sort.IntSlice }

// Push is for container/heap.
func (p *pending) Push(index any) { p.IntSlice = append(p.IntSlice, index.(int)) }

// Pop is for container/heap.
func (p *pending) Pop() any {
	last := len(p.IntSlice) - 1
	index := p.IntSlice[last]
	p.IntSlice = p.IntSlice[:last]
	return index
}
