package matching

// none stands for the partner of a node that has no edge of the matching.
const none = -1

// graph is a valid graph with a matching: the right nodes at edges of each left node, and the partner
// of each left and of each right node.
type graph struct {
	neighbors   [][]int
	left, right []int
}

// unmatched returns a valid graph with the empty matching.
func unmatched(n, m int, edges [][2]int) graph {
	g := graph{neighbors: make([][]int, n), left: make([]int, n), right: make([]int, m)}
	for _, edge := range edges {
		g.neighbors[edge[0]] = append(g.neighbors[edge[0]], edge[1])
	}
	for a := range g.left {
		g.left[a] = none
	}
	for b := range g.right {
		g.right[b] = none
	}
	return g
}

// matched returns a valid graph with the matching pairs, and tells whether they are one: edges no two
// of which have a node in common.
func matched(n, m int, edges, pairs [][2]int) (graph, bool) {
	isEdge := edgeTable(edges)
	g := unmatched(n, m, edges)
	for _, pair := range pairs {
		if !isEdge[pair] || g.left[pair[0]] != none || g.right[pair[1]] != none {
			return graph{}, false
		}
		g.match(pair[0], pair[1])
	}
	return g, true
}

func edgeTable(edges [][2]int) map[[2]int]bool {
	table := make(map[[2]int]bool)
	for _, edge := range edges {
		table[edge] = true
	}
	return table
}

// maximum returns a valid graph with a maximum matching.
func maximum(n, m int, edges [][2]int) graph {
	g := unmatched(n, m, edges)
	// A left node for which no alternating path is found has none later, either.
	for a := range n {
		g.improve(a, make([]bool, m))
	}
	return g
}

func (g graph) match(a, b int) {
	g.left[a], g.right[b] = b, a
}

// improve looks for an alternating path from the left node a, which has no partner, to a right node
// without one, and exchanges its edges: those of the matching for the others. It tells whether there
// is such a path that has no right node which was seen before, and marks those that it has seen.
func (g graph) improve(a int, seen []bool) bool {
	var visit func(a int) bool
	visit = func(a int) bool {
		for _, b := range g.neighbors[a] {
			if seen[b] {
				continue
			}
			seen[b] = true
			if g.right[b] == none || visit(g.right[b]) {
				g.match(a, b)
				return true
			}
		}
		return false
	}
	return visit(a)
}

// reached tells of each left and of each right node whether an alternating path from a left node
// without a partner leads to it. The matching is maximum, so that no path improves it.
func (g graph) reached() (left, right []bool) {
	left, right = make([]bool, len(g.left)), make([]bool, len(g.right))
	for a, b := range g.left {
		if b == none {
			g.improve(a, right)
		}
	}
	for a, b := range g.left {
		left[a] = b == none || right[b]
	}
	return left, right
}

// pairs returns the matching, ascending by left nodes.
func (g graph) pairs() [][2]int {
	var l [][2]int
	for a, b := range g.left {
		if b != none {
			l = append(l, [2]int{a, b})
		}
	}
	return l
}
