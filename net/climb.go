package net

import (
	"slices"

	"slipstick/api"
)

// What stands in place of a level that isn't known: of a node that wasn't come to, and of one that waits for those it uses.
const (
	unknown = -2
	waiting = -1
)

// climber finds levels. The nodes that wait are a list, not calls within calls, as a net may be as deep as it has nodes.
type climber struct {
	nodes  []api.Node
	levels []int
	waits  []int
}

// await lays a node to those that wait.
func (c *climber) await(place int) {
	c.levels[place] = waiting
	c.waits = append(c.waits, place)
}

// step tells the level of the node that waits last, or lets one that it uses wait, and tells false where that one waits already: then it leads back to itself.
func (c *climber) step() bool {
	last := len(c.waits) - 1
	level, x := 0, c.nodes[c.waits[last]]
	places, many := used(x)
	if x.Kind == api.Dff {
		// What it tells hangs on the cycle before.
		many = 0
	}
	for _, place := range places[:many] {
		switch below := c.levels[place]; below {
		case waiting:
			return false
		case unknown:
			c.await(place)
			return true
		default:
			level = max(level, below+1)
		}
	}
	c.levels[c.waits[last]] = level
	c.waits = c.waits[:last]
	return true
}

// climb tells the nodes' levels, or false where one leads back to itself.
func climb(nodes []api.Node) ([]int, bool) {
	c := climber{nodes: nodes, levels: slices.Repeat([]int{unknown}, len(nodes))}
	for place := range nodes {
		if c.levels[place] == unknown {
			c.await(place)
		}
		for len(c.waits) > 0 {
			if !c.step() {
				return nil, false
			}
		}
	}
	return c.levels, true
}
