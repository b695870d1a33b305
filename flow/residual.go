package flow

import (
	"math"
	"slices"

	"antecede/api"
)

// none is the index of no arc, and the distance of a node that is not reached.
const none = -1

// arc is an edge in one of its two directions: as much as rest can still go along it to the node to.
// Back is the index of the same edge in the other direction, next that of the next arc from the same
// node.
type arc struct{ to, rest, back, next int }

// residual is what a flow leaves of a network. First[a] is the index of the first arc from the node a.
type residual struct {
	arcs  []arc
	first []int
}

// newResidual returns a residual network in which the edges have these rests, and cannot be gone
// along backwards.
func newResidual(n api.Net, rests []int) *residual {
	r := &residual{
		arcs:  make([]arc, 2*len(n.Edges)),
		first: slices.Repeat([]int{none}, n.N),
	}
	for i, edge := range n.Edges {
		r.put(forward(i), edge.From, arc{to: edge.To, rest: rests[i], back: backward(i)})
		r.put(backward(i), edge.To, arc{to: edge.From, back: forward(i)})
	}
	return r
}

// forward is the index of the arc of the edge i in its own direction, backward that of the other one.
func forward(i int) int  { return 2 * i }
func backward(i int) int { return 2*i + 1 }

// put makes x the arc k, and the first one from the node a.
func (r *residual) put(k, a int, x arc) {
	x.next = r.first[a]
	r.arcs[k] = x
	r.first[a] = k
}

// distances returns for each node how many arcs with a rest lead to it from s, at the least.
func (r *residual) distances(s int) []int {
	count := len(r.first)
	distances := slices.Repeat([]int{none}, count)
	distances[s] = 0
	// Each node enters the queue at most once, so that it stays within the array.
	var room [api.MaxSet]int
	queue := append(room[0:0:count], s)
	for at := 0; at < len(queue); at++ {
		a := queue[at]
		for k := r.first[a]; k != none; k = r.arcs[k].next {
			if b := r.arcs[k].to; r.arcs[k].rest > 0 && distances[b] == none {
				distances[b] = distances[a] + 1
				queue = append(queue, b)
			}
		}
	}
	return distances
}

// maximize sends from s to t what can be sent (by Dinic's algorithm): along all shortest paths, as
// long as there is a path. Each time the paths become longer.
func (r *residual) maximize(s, t int) {
	for {
		p := phase{residual: r, distances: r.distances(s), at: slices.Clone(r.first), end: t}
		if p.distances[t] == none {
			return
		}
		p.push(s, math.MaxInt)
	}
}

// takePath takes 1 from the rest of each arc of a shortest path from s to t, and returns its nodes.
func (r *residual) takePath(s, t int) []int {
	distances := r.distances(s)
	path := []int{t}
	for left := distances[t] - 1; left >= 0; left-- {
		b := path[len(path)-1]
		for k := r.first[b]; k != none; k = r.arcs[k].next {
			a, entering := r.arcs[k].to, r.arcs[k].back
			if distances[a] == left && r.arcs[entering].rest > 0 {
				r.arcs[entering].rest--
				path = append(path, a)
				break
			}
		}
	}
	slices.Reverse(path)
	return path
}

// phase is the search for all shortest paths to the node end. At[a] is the first arc from the node a
// that may still be of use; those before it were found to lead nowhere, or are used up.
type phase struct {
	*residual
	distances []int
	at        []int
	end       int
}

// push sends up to limit from a to the end, and returns how much it was.
func (p *phase) push(a, limit int) int {
	if a == p.end {
		return limit
	}
	sent := 0
	for p.at[a] != none {
		k := p.at[a]
		if x := p.arcs[k]; x.rest > 0 && p.distances[x.to] == p.distances[a]+1 {
			part := p.push(x.to, min(limit-sent, x.rest))
			p.arcs[k].rest -= part
			p.arcs[x.back].rest += part
			sent += part
		}
		if sent == limit {
			// This arc may have a rest for the next time.
			break
		}
		p.at[a] = p.arcs[k].next
	}
	return sent
}
