package raft

import "stopcock/api"

// perNode holds something about each node, at the place of its number.
type perNode[T any] [api.MaxNodes + 1]T

// of returns what is held about a node.
func (p *perNode[T]) of(n int) T { return p[n] }

// put holds something else about a node.
func (p *perNode[T]) put(n int, x T) { p[n] = x }

// fill holds the same about all nodes.
func (p *perNode[T]) fill(x T) {
	for n := range p {
		p[n] = x
	}
}

// which returns the nodes about which something holds, in increasing order.
func (p *perNode[T]) which(holds func(T) bool) []int {
	var l []int
	for n := 1; n <= api.MaxNodes; n++ {
		if holds(p[n]) {
			l = append(l, n)
		}
	}
	return l
}
