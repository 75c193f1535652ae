// Package tree: what layers need of trees that may not call each other.
package tree

import "thicket/api"

const (
	maxDeep = 10 * api.MaxDeep // of Kids
	tooMany = api.MaxNodes + 1
)

// Count the nodes of a tree: ErrMany, if they are too many, or too deep.
func Count(n api.Node) (int, api.Errno) {
	if count := countOn(0, n, 0); count < tooMany {
		return count, api.OK
	}
	return 0, api.ErrMany
}

// countOn goes on counting with a node that is so deep, and those in it. It stops where they are too many, or too deep, as a tree may have itself for a Kid.
func countOn(count int, n api.Node, deep int) int {
	if deep > maxDeep {
		return tooMany
	}
	count++
	for i := 0; i < len(n.Kids) && count < tooMany; i++ {
		count = countOn(count, n.Kids[i], deep+1)
	}
	return count
}
