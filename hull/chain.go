package hull

import (
	"slices"
	"sort"
)

// point is a key, and how high a line may be there at most, or at least.
type point struct {
	key    uint64
	height int64
}

// between is the slope of the way from a to b, whose key is above that of a.
func between(a, b point) slope {
	return slope{rise: b.height - a.height, far: b.key - a.key}
}

// How a chain bends: up, if each step is steeper than the one ahead; down, if each is less steep.
const (
	down = -1
	up   = 1
)

// chain is the points that were laid down, without those that can't be touched any more, so that it bends one way. The first and the last one are always in it.
type chain struct {
	bend   int
	points []point
}

func (c *chain) last() point { return c.points[len(c.points)-1] }

// touch is the place of the point from which the way to p, whose key is above all theirs, is steepest; if the chain bends down, least steep.
func (c *chain) touch(p point) int {
	// If p is not above a step that is drawn out, it is not above any behind that one either, as these are steeper (not below, if the chain bends down): so the first such step can be found by halving. Up to there each point is better than the one ahead, and none behind it is.
	return sort.Search(len(c.points)-1, func(i int) bool {
		a, b := c.points[i], c.points[i+1]
		return compare(between(a, p), between(a, b))*c.bend <= 0
	})
}

// touched is the point at that place.
func (c *chain) touched(p point) point { return c.points[c.touch(p)] }

// lay adds p, whose key is above all others'. The points behind the one that it touches go: with them the chain would bend the other way.
func (c *chain) lay(p point) {
	if len(c.points) > 0 {
		c.points = c.points[:c.touch(p)+1]
	}
	c.points = append(c.points, p)
}

func (c *chain) clone() chain {
	return chain{bend: c.bend, points: slices.Clone(c.points)}
}
