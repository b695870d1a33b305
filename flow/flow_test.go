package flow_test

import (
	"math"
	"slices"
	"testing"

	"antecede/api"
	"antecede/bits"
	"antecede/flow"
)

const limit = api.MaxNumber

// The tests compute by the definitions: cuts and closed sets are tables of truths, the smallest
// networks have their flows listed.

func net(n int, edges ...api.Edge) api.Net {
	return api.Net{N: n, Edges: edges}
}

func edge(from, to, capacity int) api.Edge {
	return api.Edge{From: from, To: to, Cap: capacity}
}

// setOf has the words of a table, which are made bit by bit.
func setOf(table []bool) api.Set {
	words := make([]uint64, (len(table)+63)/64)
	for i, has := range table {
		if has {
			words[i/64] |= uint64(1) << (i % 64)
		}
	}
	return api.Set{N: len(table), W: words}
}

func set(n int, members ...int) api.Set {
	table := make([]bool, n)
	for _, i := range members {
		table[i] = true
	}
	return setOf(table)
}

func isEqual(a, b api.Set) bool {
	return a.N == b.N && slices.Equal(a.W, b.W)
}

func isZero(s api.Set) bool {
	return s.N == 0 && len(s.W) == 0
}

// tables are all tables of n truths.
func tables(n int) [][]bool {
	var l [][]bool
	for code := range 1 << n {
		table := make([]bool, n)
		for i := range table {
			table[i] = code>>i%2 == 1
		}
		l = append(l, table)
	}
	return l
}

// lists are all lists with a number from low[i] to high[i] for each i.
func lists(low, high []int) [][]int {
	l := [][]int{{}}
	for i := range low {
		var longer [][]int
		for _, list := range l {
			for k := low[i]; k <= high[i]; k++ {
				longer = append(longer, append(slices.Clone(list), k))
			}
		}
		l = longer
	}
	return l
}

// value is what leaves s less what enters it.
func value(n api.Net, s int, f []int) int {
	sum := 0
	for i, x := range n.Edges {
		if x.From == s {
			sum += f[i]
		}
		if x.To == s {
			sum -= f[i]
		}
	}
	return sum
}

// isFlow tells whether f is a flow, by the definition.
func isFlow(n api.Net, s, t int, f []int) bool {
	if len(f) != len(n.Edges) {
		return false
	}
	for i, x := range n.Edges {
		if f[i] < 0 || f[i] > x.Cap {
			return false
		}
	}
	for a := range n.N {
		if a != s && a != t && value(n, a, f) != 0 {
			return false
		}
	}
	return true
}

// capacity is that of the cut with the nodes of a table.
func capacity(n api.Net, table []bool) int {
	sum := 0
	for _, x := range n.Edges {
		if table[x.From] && !table[x.To] {
			sum += x.Cap
		}
	}
	return sum
}

// nearest finds the intersection of all minimal cuts, and their capacity, among all cuts.
func nearest(n api.Net, s, t int) ([]bool, int) {
	var common []bool
	least := math.MaxInt
	for _, table := range tables(n.N) {
		if !table[s] || table[t] {
			continue
		}
		switch c := capacity(n, table); {
		case c < least:
			common, least = slices.Clone(table), c
		case c == least:
			for i := range common {
				common[i] = common[i] && table[i]
			}
		}
	}
	return common, least
}

// random returns numbers below n of a fixed sequence (SplitMix64).
func random(seed uint64) func(n int) int {
	return func(n int) int {
		seed += 0x9e3779b97f4a7c15
		x := seed
		x = (x ^ x>>30) * 0xbf58476d1ce4e5b9
		x = (x ^ x>>27) * 0x94d049bb133111eb
		return int((x ^ x>>31) % uint64(n))
	}
}

// randomNet has n nodes, and edges whose capacities are at most most.
func randomNet(n, edges, most int, next func(n int) int) api.Net {
	network := net(n)
	for range edges {
		from := next(n)
		to := (from + 1 + next(n-1)) % n
		network.Edges = append(network.Edges, edge(from, to, next(most+1)))
	}
	return network
}

// tiny are all networks of 2 and some of 3 nodes with edges of the capacities from 0 to 2.
func tiny() []api.Net {
	l := []api.Net{net(2), net(3)}
	for _, caps := range lists([]int{0, 0, 0}, []int{2, 2, 2}) {
		l = append(l, net(2, edge(0, 1, caps[0]), edge(1, 0, caps[1]), edge(0, 1, caps[2])))
	}
	// A capacity of -1 stands for no edge.
	for _, caps := range lists([]int{-1, -1, -1, -1, -1, -1}, []int{1, 2, 1, 2, 1, 1}) {
		n := net(3)
		for i, pair := range [][2]int{{0, 1}, {1, 2}, {0, 2}, {2, 1}, {1, 0}, {2, 0}} {
			if caps[i] >= 0 {
				n.Edges = append(n.Edges, edge(pair[0], pair[1], caps[i]))
			}
		}
		l = append(l, n)
	}
	return l
}

// small are networks with so few nodes that all their cuts can be listed.
func small() []api.Net {
	l := tiny()
	next := random(7)
	for n := 2; n <= 8; n++ {
		for edges := range 30 {
			for _, most := range []int{1, 2, 5, limit} {
				l = append(l, randomNet(n, edges, most, next))
			}
		}
	}
	return l
}

// chain goes from node to node, up to n - 1.
func chain(n, capacity int) api.Net {
	network := net(n)
	for i := range n - 1 {
		network.Edges = append(network.Edges, edge(i, i+1, capacity))
	}
	return network
}

// ladder has two rows of nodes between 0 and the last one, with edges along them, and forth and back
// between them.
func ladder(steps int, next func(n int) int) api.Net {
	n := net(2*steps + 2)
	last := n.N - 1
	n.Edges = append(n.Edges, edge(0, 1, limit), edge(0, 2, limit), edge(last-2, last, limit), edge(last-1, last, limit))
	for i := range steps - 1 {
		a, b := 2*i+1, 2*i+2
		n.Edges = append(n.Edges, edge(a, a+2, next(limit)), edge(b, b+2, next(limit)), edge(a, b+2, next(limit)), edge(b, a+2, next(limit)))
		n.Edges = append(n.Edges, edge(a, b, next(limit)), edge(b, a, next(limit)))
	}
	return n
}

// levels lead from 0 to the last node through rows of width nodes, each of which has an edge to all
// of the next row.
func levels(rows, width int, next func(n int) int) api.Net {
	n := net(rows*width + 2)
	last := n.N - 1
	for k := range width {
		n.Edges = append(n.Edges, edge(0, 1+k, next(limit)), edge(last-1-k, last, next(limit)))
	}
	for i := range rows - 1 {
		for j := range width {
			for k := range width {
				n.Edges = append(n.Edges, edge(1+i*width+j, 1+(i+1)*width+k, next(limit)))
			}
		}
	}
	return n
}

// large are networks of many nodes and edges, of which 0 is the source, and the last node the sink.
func large() []api.Net {
	next := random(8)
	l := []api.Net{net(api.MaxSet), chain(api.MaxSet, limit), chain(api.MaxSet, 1), ladder(255, next), levels(20, 9, next), levels(2, 43, next)}
	for _, n := range []int{2, 3, 9, 63, 64, 65, 127, 129, 300, 511, 512} {
		for _, most := range []int{1, 3, 1000, limit} {
			l = append(l, randomNet(n, api.MaxEdges, most, next), randomNet(n, 3*n, most, next))
		}
	}
	parallel := net(2, slices.Repeat([]api.Edge{edge(0, 1, limit)}, api.MaxEdges)...)
	return append(l, parallel)
}

// invalid are networks that are not valid.
func invalid() []api.Net {
	l := []api.Net{
		{},
		net(0),
		net(0, edge(0, 1, 1)),
		net(1, edge(0, 0, 1)),
		net(1, edge(0, 1, 1)),
		net(2, edge(0, 2, 1)),
		net(2, edge(0, 1, 1), edge(2, 1, 1)),
		net(513, edge(0, 1, 1)),
		net(3, edge(0, 1, 1), edge(1, 1, 0), edge(1, 2, 1)),
		net(3, edge(0, 1, 1), edge(1, 2, -1)),
		net(3, edge(0, 1, 1), edge(1, 2, limit+1)),
		net(2, slices.Repeat([]api.Edge{edge(0, 1, 1)}, api.MaxEdges+1)...),
		net(2, slices.Repeat([]api.Edge{edge(0, 1, 0)}, 100000)...),
	}
	for _, n := range []int{-1, -2, -512, 513, 514, 1000, 1 << 32, math.MaxInt, math.MinInt} {
		l = append(l, net(n))
	}
	return l
}

// wrongNodes are nodes that a network of n nodes does not have.
func wrongNodes(n int) []int {
	return []int{-1, -2, -64, n, n + 1, n + 64, 1 << 32, 1<<32 + 1, math.MaxInt, math.MinInt}
}

// badEnds are sources and sinks that are not two different nodes of a network of n nodes.
func badEnds(n int) [][2]int {
	l := [][2]int{{0, 0}, {n - 1, n - 1}, {-1, -1}, {n, n}, {-1, n}, {n, n + 1}, {math.MinInt, math.MaxInt}}
	for _, a := range wrongNodes(n) {
		l = append(l, [2]int{a, 0}, [2]int{0, a}, [2]int{a, n - 1}, [2]int{n - 1, a})
	}
	return l
}

// forEachEnds calls f for all pairs of different nodes.
func forEachEnds(n api.Net, f func(s, t int)) {
	for s := range n.N {
		for t := range n.N {
			if s != t {
				f(s, t)
			}
		}
	}
}

func noFlow(n api.Net) []int {
	return make([]int, len(n.Edges))
}

// P4.1

func TestValid(t *testing.T) {
	for _, n := range slices.Concat(small(), large(), []api.Net{net(1), net(512), {N: 3, Edges: []api.Edge{}}}) {
		if !flow.Valid(n) {
			t.Errorf("%v is valid", n)
		}
	}
	for i, n := range invalid() {
		if flow.Valid(n) {
			t.Errorf("%d: a network of %d nodes and %d edges is not valid", i, n.N, len(n.Edges))
		}
	}
}

func TestValidSizes(t *testing.T) {
	for n := -600; n <= 600; n++ {
		if got := flow.Valid(net(n)); got != (n >= 1 && n <= 512) {
			t.Errorf("Valid of %d nodes = %t", n, got)
		}
	}
	for _, c := range []struct {
		edges int
		want  bool
	}{{0, true}, {1, true}, {1999, true}, {2000, true}, {2001, false}, {2002, false}, {4000, false}} {
		if got := flow.Valid(net(2, slices.Repeat([]api.Edge{edge(1, 0, 3)}, c.edges)...)); got != c.want {
			t.Errorf("Valid of %d edges = %t", c.edges, got)
		}
	}
}

// Each single edge decides.
func TestValidEdgeByEdge(t *testing.T) {
	for _, n := range []int{2, 3, 64, 65, 512} {
		good := chain(n, 7)
		for i := range good.Edges {
			changed := func(from, to, capacity int) api.Net {
				edges := slices.Clone(good.Edges)
				edges[i] = edge(from, to, capacity)
				return net(n, edges...)
			}
			for _, capacity := range []int{0, 1, 7, limit - 1, limit} {
				if !flow.Valid(changed(i, i+1, capacity)) || !flow.Valid(changed(i+1, i, capacity)) {
					t.Errorf("the capacity %d of the edge %d of %d nodes", capacity, i, n)
				}
			}
			for _, capacity := range []int{-1, -limit, limit + 1, 1 << 62, math.MaxInt, math.MinInt} {
				if flow.Valid(changed(i, i+1, capacity)) {
					t.Errorf("the capacity %d of the edge %d of %d nodes", capacity, i, n)
				}
			}
			for _, a := range wrongNodes(n) {
				if flow.Valid(changed(i, a, 1)) || flow.Valid(changed(a, i, 1)) || flow.Valid(changed(a, a, 1)) {
					t.Errorf("the node %d of the edge %d of %d nodes", a, i, n)
				}
			}
			if flow.Valid(changed(i, i, 7)) || flow.Valid(changed(i+1, i+1, 0)) {
				t.Errorf("the edge %d of %d nodes from a node to itself", i, n)
			}
		}
	}
}

// P4.2

// checkMax checks that Max returns a flow of this value.
func checkMax(t *testing.T, n api.Net, s, sink, want int) {
	t.Helper()
	got, f, err := flow.Max(n, s, sink)
	if got != want || err != api.OK || !isFlow(n, s, sink, f) || value(n, s, f) != want {
		t.Errorf("Max(%v, %d, %d) = %d, %v, %d, want the value %d", n, s, sink, got, f, err, want)
	}
}

func checkCut(t *testing.T, n api.Net, s, sink int, want api.Set, wantValue int) {
	t.Helper()
	got, c, err := flow.Cut(n, s, sink)
	if !isEqual(got, want) || c != wantValue || err != api.OK {
		t.Errorf("Cut(%v, %d, %d) = %v, %d, %d, want %v, %d", n, s, sink, got, c, err, want, wantValue)
	}
}

func TestMaxAndCut(t *testing.T) {
	for _, n := range small() {
		forEachEnds(n, func(s, sink int) {
			side, least := nearest(n, s, sink)
			checkMax(t, n, s, sink, least)
			checkCut(t, n, s, sink, setOf(side), least)
		})
	}
}

func TestMaxAndCutExamples(t *testing.T) {
	for _, c := range []struct {
		n       api.Net
		s, sink int
		value   int
		side    []int
	}{
		{net(3, edge(0, 1, 3), edge(1, 2, 2), edge(0, 2, 1)), 0, 2, 3, []int{0, 1}},
		{net(3, edge(0, 1, 3), edge(1, 2, 2), edge(0, 2, 1)), 2, 0, 0, []int{2}},
		{net(2), 0, 1, 0, []int{0}},
		{net(2), 1, 0, 0, []int{1}},
		{net(2, edge(0, 1, 0)), 0, 1, 0, []int{0}},
		{net(2, edge(1, 0, 5)), 0, 1, 0, []int{0}},
		{net(2, edge(0, 1, limit)), 0, 1, limit, []int{0}},
		{net(2, edge(0, 1, 2), edge(0, 1, 3), edge(1, 0, 4), edge(0, 1, 0)), 0, 1, 5, []int{0}},
		// An edge of capacity 0 reaches nothing.
		{net(3, edge(0, 1, 0), edge(1, 2, 9)), 0, 2, 0, []int{0}},
		{net(3, edge(0, 1, 9), edge(1, 2, 0)), 0, 2, 0, []int{0, 1}},
		// Of the minimal cuts 0, 0 1, 0 1 2 the nearest one.
		{chain(4, 7), 0, 3, 7, []int{0}},
		{net(4, edge(0, 1, 8), edge(1, 2, 7), edge(2, 3, 7)), 0, 3, 7, []int{0, 1}},
		{net(4, edge(0, 1, 8), edge(1, 2, 8), edge(2, 3, 7)), 0, 3, 7, []int{0, 1, 2}},
		// Of two minimal cuts, neither of which is in the other one, the intersection.
		{net(4, edge(0, 1, 1), edge(1, 3, 1), edge(0, 2, 1), edge(2, 3, 1)), 0, 3, 2, []int{0}},
		{net(4, edge(0, 1, 2), edge(1, 3, 1), edge(0, 2, 1), edge(2, 3, 1)), 0, 3, 2, []int{0, 1}},
		// A node that is reached by a loop alone, and one that leads nowhere.
		{net(5, edge(0, 1, 2), edge(1, 4, 1), edge(1, 2, 5), edge(2, 0, 3), edge(3, 4, 7)), 0, 4, 1, []int{0, 1, 2}},
		// The first path through the middle has to be taken back in part.
		{net(4, edge(0, 1, 1), edge(1, 2, 1), edge(2, 3, 1), edge(0, 2, 1), edge(1, 3, 1)), 0, 3, 2, []int{0}},
		{net(6, edge(0, 1, 1), edge(1, 4, 1), edge(4, 5, 1), edge(0, 2, 1), edge(2, 3, 1), edge(3, 4, 1), edge(1, 5, 1)), 0, 5, 2, []int{0}},
		// Edges that enter the source, and leave the sink.
		{net(3, edge(1, 0, 9), edge(0, 1, 4), edge(2, 1, 9), edge(1, 2, 3), edge(2, 0, 9)), 0, 2, 3, []int{0, 1}},
	} {
		checkMax(t, c.n, c.s, c.sink, c.value)
		checkCut(t, c.n, c.s, c.sink, set(c.n.N, c.side...), c.value)
	}
}

// reached is what s reaches where f leaves something of an edge, or could be taken back.
func reached(n api.Net, s int, f []int) []bool {
	table := make([]bool, n.N)
	table[s] = true
	for changed := true; changed; {
		changed = false
		for i, x := range n.Edges {
			if table[x.From] && !table[x.To] && f[i] < x.Cap {
				table[x.To], changed = true, true
			}
			if table[x.To] && !table[x.From] && f[i] > 0 {
				table[x.From], changed = true, true
			}
		}
	}
	return table
}

// The value of a flow that is the capacity of a cut is the greatest one; all nodes that such a flow
// reaches are in all minimal cuts, so that a minimal cut with no others is the nearest one.
func TestMaxAndCutOfLargeNetworks(t *testing.T) {
	for _, n := range large() {
		for _, ends := range [][2]int{{0, n.N - 1}, {n.N - 1, 0}, {n.N / 2, 0}} {
			s, sink := ends[0], ends[1]
			if s == sink {
				continue
			}
			got, f, err := flow.Max(n, s, sink)
			if err != api.OK || !isFlow(n, s, sink, f) || value(n, s, f) != got {
				t.Errorf("Max of %d nodes and %d edges = %d, %d", n.N, len(n.Edges), got, err)
				continue
			}
			table := reached(n, s, f)
			if table[sink] || capacity(n, table) != got {
				t.Errorf("Max of %d nodes and %d edges = %d is not the greatest value", n.N, len(n.Edges), got)
			}
			checkCut(t, n, s, sink, setOf(table), got)
		}
	}
}

func TestMaxAndCutAtTheLimits(t *testing.T) {
	checkMax(t, chain(512, limit), 0, 511, limit)
	checkCut(t, chain(512, limit), 0, 511, set(512, 0), limit)
	parallel := net(2, slices.Repeat([]api.Edge{edge(0, 1, limit)}, 2000)...)
	checkMax(t, parallel, 0, 1, 2000*limit)
	checkCut(t, parallel, 0, 1, set(2, 0), 2000*limit)
	checkMax(t, parallel, 1, 0, 0)
	// 1,000 edges to a node and 1,000 from it, the last one of which is less.
	through := net(3, slices.Repeat([]api.Edge{edge(0, 1, limit), edge(1, 2, limit)}, 1000)...)
	through.Edges[1999].Cap--
	checkMax(t, through, 0, 2, 1000*limit-1)
	checkCut(t, through, 0, 2, set(3, 0, 1), 1000*limit-1)
}

func checkNoMax(t *testing.T, n api.Net, s, sink int, want api.Errno) {
	t.Helper()
	if got, f, err := flow.Max(n, s, sink); got != 0 || len(f) != 0 || err != want {
		t.Errorf("Max of %d nodes, %d, %d = %d, %v, %d, want the error %d", n.N, s, sink, got, f, err, want)
	}
	if side, c, err := flow.Cut(n, s, sink); !isZero(side) || c != 0 || err != want {
		t.Errorf("Cut of %d nodes, %d, %d = %v, %d, %d, want the error %d", n.N, s, sink, side, c, err, want)
	}
}

func TestMaxAndCutErrors(t *testing.T) {
	for _, n := range invalid() {
		// ErrArg comes first.
		for _, ends := range append(badEnds(n.N), [2]int{0, 1}, [2]int{1, 0}) {
			checkNoMax(t, n, ends[0], ends[1], api.ErrArg)
		}
	}
	for _, n := range []api.Net{net(1), net(2), chain(2, 3), chain(3, 3), chain(64, 3), chain(512, limit)} {
		for _, ends := range badEnds(n.N) {
			checkNoMax(t, n, ends[0], ends[1], api.ErrRange)
		}
	}
	checkNoMax(t, net(1), 0, 1, api.ErrRange)
}

// P4.3

func checkCheck(t *testing.T, n api.Net, s, sink int, f []int, side api.Set, want bool) {
	t.Helper()
	if got := flow.Check(n, s, sink, f, side); got != want {
		t.Errorf("Check(%v, %d, %d, %v, %v) = %t", n, s, sink, f, side, got)
	}
}

// All lists of numbers, also below 0 and beyond the capacities, with all sets of nodes.
func TestCheck(t *testing.T) {
	next := random(9)
	networks := slices.Clone(tiny()[:29])
	for edges := range 5 {
		for range 6 {
			networks = append(networks, randomNet(3, edges, 2, next), randomNet(4, edges, 1, next))
		}
	}
	for _, n := range networks {
		low, high := slices.Repeat([]int{-1}, len(n.Edges)), noFlow(n)
		for i, x := range n.Edges {
			high[i] = x.Cap + 1
		}
		for _, f := range lists(low, high) {
			for _, table := range tables(n.N) {
				forEachEnds(n, func(s, sink int) {
					want := isFlow(n, s, sink, f) && table[s] && !table[sink] && value(n, s, f) == capacity(n, table)
					checkCheck(t, n, s, sink, f, setOf(table), want)
				})
			}
		}
	}
}

func TestCheckExamples(t *testing.T) {
	n := net(3, edge(0, 1, 3), edge(1, 2, 2), edge(0, 2, 1))
	checkCheck(t, n, 0, 2, []int{2, 2, 1}, set(3, 0, 1), true)
	// The capacity is greater than the value: of a cut that is not minimal, and of a flow that keeps
	// every capacity, but is not maximal.
	checkCheck(t, n, 0, 2, []int{2, 2, 1}, set(3, 0), false)
	checkCheck(t, n, 0, 2, []int{1, 1, 1}, set(3, 0, 1), false)
	checkCheck(t, n, 0, 2, []int{0, 0, 0}, set(3, 0, 1), false)
	// No flow: more enters the node 1 than leaves it, or an edge has too much.
	checkCheck(t, n, 0, 2, []int{3, 2, 0}, set(3, 0, 1), false)
	checkCheck(t, n, 0, 2, []int{3, 2, 1}, set(3, 0, 1), false)
	checkCheck(t, n, 0, 2, []int{1, 1, 2}, set(3, 0, 1), false)
	checkCheck(t, n, 0, 2, []int{3, 3, 0}, set(3, 0, 1), false)
	checkCheck(t, n, 0, 2, []int{-1, -1, 4}, set(3, 0, 1), false)
	// No cut.
	checkCheck(t, n, 0, 2, []int{2, 2, 1}, set(3, 1), false)
	checkCheck(t, n, 0, 2, []int{2, 2, 1}, set(3, 0, 1, 2), false)
	checkCheck(t, n, 0, 2, []int{2, 2, 1}, set(3), false)
	// The opposite direction, in which nothing can be sent, and no edge leaves a cut.
	checkCheck(t, n, 2, 0, []int{0, 0, 0}, set(3, 2), true)
	checkCheck(t, n, 2, 0, []int{0, 0, 0}, set(3, 1, 2), true)
	checkCheck(t, n, 2, 0, []int{0, 0, 0}, set(3, 0, 1), false)
	checkCheck(t, n, 2, 0, []int{2, 2, 1}, set(3, 0, 1), false)
	// A loop adds nothing, and does no harm, also at the source.
	loop := net(4, edge(0, 1, 1), edge(1, 0, 3), edge(2, 3, 3), edge(3, 2, 3), edge(0, 3, 4))
	checkCheck(t, loop, 0, 1, []int{1, 0, 2, 2, 0}, set(4, 0, 3, 2), true)
	checkCheck(t, loop, 0, 1, []int{1, 1, 0, 0, 0}, set(4, 0, 3, 2), false)
	// Nodes that nothing goes through may be in the cut, or not.
	checkCheck(t, net(3), 0, 1, nil, set(3, 0), true)
	checkCheck(t, net(3), 0, 1, []int{}, set(3, 0, 2), true)
	// What the cut loses beyond the limits of numbers.
	parallel := net(2, slices.Repeat([]api.Edge{edge(0, 1, limit)}, 2000)...)
	checkCheck(t, parallel, 0, 1, slices.Repeat([]int{limit}, 2000), set(2, 0), true)
	checkCheck(t, parallel, 0, 1, append(slices.Repeat([]int{limit}, 1999), limit-1), set(2, 0), false)
}

func TestCheckOfListsThatAreNoFlow(t *testing.T) {
	n := net(3, edge(0, 1, 3), edge(1, 2, 3))
	side := set(3, 0)
	checkCheck(t, n, 0, 2, []int{3, 3}, side, true)
	for _, f := range [][]int{nil, {}, {3}, {3, 3, 0}, {3, 3, 3, 3}, {4, 4}, {math.MaxInt, math.MaxInt}, {math.MinInt, math.MinInt}, {3, 2}, {2, 3}} {
		checkCheck(t, n, 0, 2, f, side, false)
	}
	// Sums that would be right modulo 2^64.
	wide := net(3, edge(0, 1, 1), edge(0, 1, 1), edge(1, 2, 0))
	checkCheck(t, wide, 0, 2, []int{math.MinInt, math.MinInt, 0}, set(3, 0, 1), false)
	checkCheck(t, wide, 0, 2, []int{0, 0, 0}, set(3, 0, 1), true)
	checkCheck(t, wide, 0, 2, []int{0, 0}, set(3, 0, 1), false)
}

func TestCheckOfWrongArguments(t *testing.T) {
	for _, n := range invalid() {
		for _, ends := range append(badEnds(n.N), [2]int{0, 1}) {
			for _, side := range []api.Set{{}, set(1, 0), set(2, 0), {N: n.N, W: []uint64{1}}, {N: n.N}} {
				checkCheck(t, n, ends[0], ends[1], noFlow(n), side, false)
			}
		}
	}
	for _, n := range []api.Net{net(1), net(2), net(3), net(512)} {
		for _, ends := range badEnds(n.N) {
			checkCheck(t, n, ends[0], ends[1], nil, set(n.N, 0), false)
			checkCheck(t, n, ends[0], ends[1], nil, set(n.N), false)
		}
	}
	for _, n := range []int{2, 3, 63, 64, 65, 512} {
		sides := []api.Set{
			{}, {N: n}, {W: []uint64{1}}, {N: -n, W: set(n, 0).W}, {N: math.MaxInt, W: []uint64{1}}, {N: math.MinInt, W: []uint64{1}},
			{N: n, W: append(set(n, 0).W, 0)}, {N: n, W: set(n, 0).W[1:]}, {N: n - 1, W: set(n, 0).W}, {N: n + 1, W: set(n, 0).W},
			set(n-1, 0), set(n+1, 0), set(n+64, 0),
		}
		if n%64 != 0 {
			beyond := set(n, 0)
			beyond.W[n/64] |= uint64(1) << (n % 64)
			sides = append(sides, beyond)
		}
		for _, side := range sides {
			checkCheck(t, net(n), 0, n-1, nil, side, false)
		}
		checkCheck(t, net(n), 0, n-1, nil, set(n, 0), true)
	}
}

// P4.4

// checkPaths checks that there are as many paths as the value says, and that they keep to the flow.
func checkPaths(t *testing.T, n api.Net, s, sink int, f []int) {
	t.Helper()
	paths, err := flow.Paths(n, s, sink, f)
	if err != api.OK || len(paths) != value(n, s, f) {
		t.Fatalf("Paths(%v, %d, %d, %v) = %v, %d", n, s, sink, f, paths, err)
	}
	steps := make(map[[2]int]int)
	for i, x := range n.Edges {
		steps[[2]int{x.From, x.To}] += f[i]
	}
	for _, path := range paths {
		if len(path) < 2 || path[0] != s || path[len(path)-1] != sink {
			t.Fatalf("Paths(%v, %d, %d, %v): the ends of %v", n, s, sink, f, path)
		}
		seen := make(map[int]bool)
		for k, b := range path {
			if seen[b] {
				t.Fatalf("Paths(%v, %d, %d, %v): %v is twice at %d", n, s, sink, f, path, b)
			}
			seen[b] = true
			if k > 0 {
				steps[[2]int{path[k-1], b}]--
			}
		}
	}
	for pair, left := range steps {
		if left < 0 {
			t.Fatalf("Paths(%v, %d, %d, %v) = %v: too many go from %d to %d", n, s, sink, f, paths, pair[0], pair[1])
		}
	}
}

func checkNoPaths(t *testing.T, n api.Net, s, sink int, f []int, want api.Errno) {
	t.Helper()
	if paths, err := flow.Paths(n, s, sink, f); len(paths) != 0 || err != want {
		t.Errorf("Paths of %d nodes, %d, %d, %v = %v, %d, want the error %d", n.N, s, sink, f, paths, err, want)
	}
}

// All lists of numbers in tiny networks: flows with loops, of negative values, and lists that are no
// flow.
func TestPaths(t *testing.T) {
	next := random(10)
	networks := tiny()
	for edges := range 7 {
		for range 8 {
			networks = append(networks, randomNet(3, edges, 2, next), randomNet(4, edges, 1, next), randomNet(5, edges, 1, next))
		}
	}
	for _, n := range networks {
		high := noFlow(n)
		for i, x := range n.Edges {
			high[i] = x.Cap
		}
		for _, f := range lists(noFlow(n), high) {
			forEachEnds(n, func(s, sink int) {
				if !isFlow(n, s, sink, f) || value(n, s, f) < 0 {
					checkNoPaths(t, n, s, sink, f, api.ErrProof)
				} else {
					checkPaths(t, n, s, sink, f)
				}
			})
		}
	}
}

func TestPathsOfMaximalFlows(t *testing.T) {
	for _, n := range slices.Concat(small(), large()) {
		s, sink := 0, n.N-1
		most, f, _ := flow.Max(n, s, sink)
		if most > api.MaxList {
			checkNoPaths(t, n, s, sink, f, api.ErrFull)
		} else {
			checkPaths(t, n, s, sink, f)
		}
	}
}

func TestPathsExamples(t *testing.T) {
	checkThe := func(n api.Net, s, sink int, f []int, want ...[]int) {
		t.Helper()
		got, err := flow.Paths(n, s, sink, f)
		slices.SortFunc(got, slices.Compare)
		if err != api.OK || !slices.EqualFunc(got, want, func(a, b []int) bool { return slices.Equal(a, b) }) {
			t.Errorf("Paths(%v, %d, %d, %v) = %v, %d, want %v", n, s, sink, f, got, err, want)
		}
	}
	n := net(3, edge(0, 1, 3), edge(1, 2, 2), edge(0, 2, 1))
	checkThe(n, 0, 2, []int{2, 2, 1}, []int{0, 1, 2}, []int{0, 1, 2}, []int{0, 2})
	checkThe(n, 0, 2, []int{1, 1, 0}, []int{0, 1, 2})
	checkThe(n, 0, 2, []int{0, 0, 0})
	checkThe(net(2), 0, 1, nil)
	// Several edges between two nodes.
	checkThe(net(2, edge(0, 1, 1), edge(0, 1, 5), edge(0, 1, 1)), 0, 1, []int{1, 2, 0}, []int{0, 1}, []int{0, 1}, []int{0, 1})
	// Loops that add nothing to the value: aside, at a node of the path, at the source and the sink.
	loops := net(6, edge(0, 1, 9), edge(1, 2, 9), edge(3, 4, 9), edge(4, 3, 9), edge(1, 5, 9), edge(5, 1, 9), edge(1, 0, 9), edge(2, 1, 9))
	checkThe(loops, 0, 2, []int{1, 1, 5, 5, 0, 0, 0, 0}, []int{0, 1, 2})
	checkThe(loops, 0, 2, []int{1, 1, 0, 0, 5, 5, 0, 0}, []int{0, 1, 2})
	checkThe(loops, 0, 2, []int{4, 1, 0, 0, 0, 0, 3, 0}, []int{0, 1, 2})
	checkThe(loops, 0, 2, []int{1, 4, 0, 0, 0, 0, 0, 3}, []int{0, 1, 2})
	checkThe(loops, 0, 2, []int{2, 2, 0, 0, 0, 0, 2, 2})
	checkThe(loops, 0, 2, []int{0, 0, 9, 9, 9, 9, 0, 0})
	// What comes back from the sink to the source: 5 could be sent, but the value is 2.
	back := net(2, edge(0, 1, 5), edge(1, 0, 5))
	checkThe(back, 0, 1, []int{5, 3}, []int{0, 1}, []int{0, 1})
	checkThe(back, 0, 1, []int{5, 5})
	checkThe(back, 1, 0, []int{2, 3}, []int{1, 0})
	checkNoPaths(t, back, 1, 0, []int{5, 3}, api.ErrProof)
	checkNoPaths(t, back, 0, 1, []int{0, 1}, api.ErrProof)
	// The flow goes along both ways, although there would be a shorter one.
	cross := net(4, edge(0, 1, 1), edge(1, 2, 1), edge(2, 3, 1), edge(0, 2, 1), edge(1, 3, 1))
	checkThe(cross, 0, 3, []int{1, 0, 1, 1, 1}, []int{0, 1, 3}, []int{0, 2, 3})
	checkThe(cross, 0, 3, []int{1, 1, 1, 0, 0}, []int{0, 1, 2, 3})
}

func TestPathsAtTheLimits(t *testing.T) {
	for _, n := range []api.Net{net(2, edge(0, 1, limit)), chain(3, limit), chain(512, limit)} {
		for _, most := range []int{0, 1, 999, 1000} {
			checkPaths(t, n, 0, n.N-1, slices.Repeat([]int{most}, len(n.Edges)))
		}
		for _, most := range []int{1001, 1002, 2000, limit} {
			checkNoPaths(t, n, 0, n.N-1, slices.Repeat([]int{most}, len(n.Edges)), api.ErrFull)
		}
	}
	parallel := net(2, slices.Repeat([]api.Edge{edge(0, 1, limit)}, 2000)...)
	f := slices.Repeat([]int{1, 0}, 1000)
	checkPaths(t, parallel, 0, 1, f)
	f[1] = 1
	checkNoPaths(t, parallel, 0, 1, f, api.ErrFull)
	checkNoPaths(t, parallel, 0, 1, slices.Repeat([]int{limit}, 2000), api.ErrFull)
	// The value counts, and not what leaves the source.
	back := net(2, edge(0, 1, limit), edge(1, 0, limit))
	checkPaths(t, back, 0, 1, []int{limit, limit - 1000})
	checkPaths(t, back, 0, 1, []int{limit, limit})
	checkNoPaths(t, back, 0, 1, []int{limit, limit - 1001}, api.ErrFull)
	checkNoPaths(t, back, 0, 1, []int{0, limit}, api.ErrProof)
	// A list that is no flow is ErrProof, however great it is.
	checkNoPaths(t, chain(3, limit), 0, 2, []int{limit, limit - 1}, api.ErrProof)
	checkNoPaths(t, chain(3, limit), 0, 2, []int{5000, 0}, api.ErrProof)
	checkNoPaths(t, chain(3, limit), 0, 2, []int{limit + 1, limit + 1}, api.ErrProof)
	checkNoPaths(t, chain(3, 5000), 0, 2, []int{5001, 5001}, api.ErrProof)
}

func TestPathsErrors(t *testing.T) {
	for _, n := range invalid() {
		for _, ends := range append(badEnds(n.N), [2]int{0, 1}) {
			checkNoPaths(t, n, ends[0], ends[1], noFlow(n), api.ErrArg)
			checkNoPaths(t, n, ends[0], ends[1], []int{-1}, api.ErrArg)
		}
	}
	for _, n := range []api.Net{net(1), net(2), chain(2, 3), chain(64, 3), chain(512, limit)} {
		for _, ends := range badEnds(n.N) {
			checkNoPaths(t, n, ends[0], ends[1], noFlow(n), api.ErrRange)
			checkNoPaths(t, n, ends[0], ends[1], []int{-1}, api.ErrRange)
		}
	}
	n := chain(3, 3)
	for _, f := range [][]int{nil, {}, {1}, {1, 1, 0}, {4, 4}, {-1, -1}, {1, 2}, {2, 1}, {math.MaxInt, math.MaxInt}, {math.MinInt, math.MinInt}} {
		checkNoPaths(t, n, 0, 2, f, api.ErrProof)
	}
	checkNoPaths(t, net(2), 0, 1, []int{0}, api.ErrProof)
}

// P4.5

func isClosed(table []bool, needs [][2]int) bool {
	return !slices.ContainsFunc(needs, func(need [2]int) bool { return table[need[0]] && !table[need[1]] })
}

func weightOf(table []bool, weights []int) int {
	sum := 0
	for i, has := range table {
		if has {
			sum += weights[i]
		}
	}
	return sum
}

// bestClosed finds the intersection of all closed sets of greatest weight, and this weight.
func bestClosed(weights []int, needs [][2]int) ([]bool, int) {
	var common []bool
	greatest := math.MinInt
	for _, table := range tables(len(weights)) {
		if !isClosed(table, needs) {
			continue
		}
		switch w := weightOf(table, weights); {
		case w > greatest:
			common, greatest = slices.Clone(table), w
		case w == greatest:
			for i := range common {
				common[i] = common[i] && table[i]
			}
		}
	}
	return common, greatest
}

func checkClosure(t *testing.T, weights []int, needs [][2]int, want api.Set, wantWeight int) {
	t.Helper()
	got, w, err := flow.Closure(weights, needs)
	if !isEqual(got, want) || w != wantWeight || err != api.OK {
		t.Errorf("Closure(%v, %v) = %v, %d, %d, want %v, %d", weights, needs, got, w, err, want, wantWeight)
	}
}

func checkNoClosure(t *testing.T, weights []int, needs [][2]int, want api.Errno) {
	t.Helper()
	if got, w, err := flow.Closure(weights, needs); !isZero(got) || w != 0 || err != want {
		t.Errorf("Closure of %d weights, %d needs = %v, %d, %d, want the error %d", len(weights), len(needs), got, w, err, want)
	}
}

func TestClosure(t *testing.T) {
	next := random(11)
	for n := range 9 {
		for count := range 3 * n {
			for _, most := range []int{1, 2, 9, api.MaxValue} {
				for range 4 {
					weights, needs := make([]int, n), make([][2]int, count)
					for i := range weights {
						weights[i] = next(2*most+1) - most
					}
					// There are needs of an element for itself, needs in a ring, and needs that are named twice.
					for i := range needs {
						needs[i] = [2]int{next(n), next(n)}
					}
					table, greatest := bestClosed(weights, needs)
					checkClosure(t, weights, needs, setOf(table), greatest)
				}
			}
		}
	}
}

// All weights from -2 to 2 of 3 elements, with all needs between them.
func TestClosureOfAllSmallWeights(t *testing.T) {
	all := [][2]int{{0, 1}, {1, 0}, {1, 2}, {2, 1}, {0, 2}, {2, 0}}
	for _, table := range tables(len(all)) {
		var needs [][2]int
		for i, has := range table {
			if has {
				needs = append(needs, all[i])
			}
		}
		for _, weights := range lists([]int{-2, -2, -2}, []int{2, 2, 2}) {
			best, greatest := bestClosed(weights, needs)
			checkClosure(t, weights, needs, setOf(best), greatest)
		}
	}
}

func TestClosureExamples(t *testing.T) {
	for _, c := range []struct {
		weights []int
		needs   [][2]int
		members []int
		weight  int
	}{
		{[]int{5, -3, -4}, [][2]int{{0, 1}}, []int{0, 1}, 2},
		{[]int{5, -3, -4}, [][2]int{{0, 1}, {1, 2}}, nil, 0},
		{[]int{5, -3, -4}, nil, []int{0}, 5},
		{[]int{5}, nil, []int{0}, 5},
		{[]int{0}, nil, nil, 0},
		{[]int{-5}, nil, nil, 0},
		{[]int{-5, -1}, [][2]int{{0, 1}}, nil, 0},
		// Of several sets of the greatest weight the least one.
		{[]int{0, 0, 0}, nil, nil, 0},
		{[]int{3, -3}, [][2]int{{0, 1}}, nil, 0},
		{[]int{3, -3, 0, 2}, [][2]int{{0, 1}}, []int{3}, 2},
		{[]int{3, 0, 0}, [][2]int{{0, 1}}, []int{0, 1}, 3},
		{[]int{3, 4, -4}, [][2]int{{1, 2}}, []int{0}, 3},
		{[]int{3, 4, -4, 1}, [][2]int{{1, 2}, {3, 2}}, []int{0, 1, 2, 3}, 4},
		// Needs of an element for itself, in a ring, and several times.
		{[]int{5, -3}, [][2]int{{0, 0}, {1, 1}}, []int{0}, 5},
		{[]int{5, -3}, [][2]int{{0, 1}, {1, 0}}, []int{0, 1}, 2},
		{[]int{5, -6, 2}, [][2]int{{0, 1}, {1, 2}, {2, 0}}, []int{0, 1, 2}, 1},
		{[]int{5, -7, 2}, [][2]int{{0, 1}, {1, 2}, {2, 0}}, nil, 0},
		{[]int{5, -3}, [][2]int{{0, 1}, {0, 1}, {0, 1}}, []int{0, 1}, 2},
		// Two elements pay together for what both need.
		{[]int{2, 2, -3}, [][2]int{{0, 2}, {1, 2}}, []int{0, 1, 2}, 1},
		{[]int{2, 1, -3}, [][2]int{{0, 2}, {1, 2}}, nil, 0},
		// What something needs is there although it has a negative weight.
		{[]int{-1, -1, 9}, [][2]int{{2, 1}, {1, 0}}, []int{0, 1, 2}, 7},
		{[]int{api.MaxValue, -api.MaxValue}, nil, []int{0}, api.MaxValue},
		{[]int{api.MaxValue, -api.MaxValue}, [][2]int{{0, 1}}, nil, 0},
		{[]int{api.MaxValue, 1 - api.MaxValue}, [][2]int{{0, 1}}, []int{0, 1}, 1},
	} {
		checkClosure(t, c.weights, c.needs, set(len(c.weights), c.members...), c.weight)
	}
	checkClosure(t, nil, nil, api.Set{}, 0)
	checkClosure(t, []int{}, [][2]int{}, api.Set{}, 0)
}

// bestTree is the least best closed set where each element but 0 needs a lesser one, its parent: what
// belongs to an element is taken together with it if it is worth more than 0.
func bestTree(weights, parents []int) ([]bool, int) {
	gains := slices.Clone(weights)
	for i := len(weights) - 1; i > 0; i-- {
		gains[parents[i]] += max(gains[i], 0)
	}
	table := make([]bool, len(weights))
	for i := range table {
		table[i] = gains[i] > 0 && (i == 0 || table[parents[i]])
	}
	return table, max(gains[0], 0)
}

func TestClosureOfManyElements(t *testing.T) {
	next := random(12)
	for _, n := range []int{63, 64, 65, 300, 499, 500} {
		for _, reach := range []int{1, 2, 20, n} {
			for _, most := range []int{1, 3, 1000, api.MaxValue} {
				weights, parents := make([]int, n), make([]int, n)
				var needs [][2]int
				for i := range weights {
					weights[i] = next(2*most+1) - most
					if i > 0 {
						parents[i] = max(0, i-1-next(reach))
						needs = append(needs, [2]int{i, parents[i]}, [2]int{i, parents[i]})
					}
				}
				table, greatest := bestTree(weights, parents)
				checkClosure(t, weights, needs, setOf(table), greatest)
			}
		}
	}
}

func TestClosureAtTheLimits(t *testing.T) {
	const most = api.MaxValue
	weights := slices.Repeat([]int{most}, 500)
	all := make([]bool, 500)
	for i := range all {
		all[i] = true
	}
	ring := make([][2]int, 0, 1000)
	for i := range 500 {
		ring = append(ring, [2]int{i, (i + 1) % 500}, [2]int{(i + 1) % 500, i})
	}
	checkClosure(t, weights, nil, setOf(all), 500*most)
	checkClosure(t, weights, ring, setOf(all), 500*most)
	checkClosure(t, slices.Repeat([]int{-most}, 500), ring, set(500), 0)
	checkClosure(t, slices.Repeat([]int{most, -most}, 250), ring, set(500), 0)
	weights = slices.Repeat([]int{most, -most}, 250)
	weights[499]++
	checkClosure(t, weights, ring, setOf(all), 1)
	// 499 elements need one.
	star := make([][2]int, 0, 499)
	for i := 1; i < 500; i++ {
		star = append(star, [2]int{i, 0})
	}
	weights = append([]int{-499}, slices.Repeat([]int{1}, 499)...)
	checkClosure(t, weights, star, set(500), 0)
	weights[0]++
	checkClosure(t, weights, star, setOf(all), 1)
}

func TestClosureTooMany(t *testing.T) {
	need := [2]int{0, 0}
	for _, n := range []int{501, 502, 512, 513, 5000} {
		checkNoClosure(t, make([]int, n), nil, api.ErrFull)
		// ErrFull comes first.
		checkNoClosure(t, slices.Repeat([]int{math.MaxInt}, n), [][2]int{{-1, 0}}, api.ErrFull)
	}
	for _, n := range []int{1001, 1002, 2000, 5000} {
		checkNoClosure(t, []int{1}, slices.Repeat([][2]int{need}, n), api.ErrFull)
		checkNoClosure(t, nil, slices.Repeat([][2]int{need}, n), api.ErrFull)
		checkNoClosure(t, []int{math.MaxInt}, slices.Repeat([][2]int{{5, 5}}, n), api.ErrFull)
	}
	checkClosure(t, []int{1}, slices.Repeat([][2]int{need}, 1000), set(1, 0), 1)
	checkClosure(t, make([]int, 500), slices.Repeat([][2]int{{499, 0}}, 1000), set(500), 0)
}

func TestClosureOutOfRange(t *testing.T) {
	for _, n := range []int{1, 2, 3, 64, 500} {
		for i := range n {
			for _, w := range []int{api.MaxValue + 1, -api.MaxValue - 1, limit, -limit, 1 << 62, math.MaxInt, math.MinInt} {
				weights := make([]int, n)
				weights[i] = w
				checkNoClosure(t, weights, nil, api.ErrRange)
			}
		}
		for _, i := range wrongNodes(n) {
			for _, need := range [][2]int{{i, 0}, {0, i}, {i, i}, {n - 1, i}, {i, n - 1}} {
				checkNoClosure(t, make([]int, n), [][2]int{need}, api.ErrRange)
				checkNoClosure(t, make([]int, n), append(slices.Repeat([][2]int{{0, n - 1}}, 999), need), api.ErrRange)
				checkNoClosure(t, make([]int, n), [][2]int{need, {0, n - 1}}, api.ErrRange)
			}
		}
	}
	// There is no element at all.
	for _, i := range []int{-1, 0, 1} {
		checkNoClosure(t, nil, [][2]int{{i, i}}, api.ErrRange)
	}
}

// P4.6

// The greatest value is the least capacity, with all flows and all cuts listed.
func TestGreatestValueIsLeastCapacity(t *testing.T) {
	next := random(13)
	var networks []api.Net
	for edges := range 7 {
		for range 10 {
			networks = append(networks, randomNet(3, edges, 3, next), randomNet(4, edges, 2, next))
		}
	}
	for _, n := range networks {
		high := noFlow(n)
		for i, x := range n.Edges {
			high[i] = x.Cap
		}
		flows := lists(noFlow(n), high)
		forEachEnds(n, func(s, sink int) {
			most, _, _ := flow.Max(n, s, sink)
			_, least, _ := flow.Cut(n, s, sink)
			if most != least {
				t.Errorf("%v, %d, %d: the value %d and the capacity %d", n, s, sink, most, least)
			}
			for _, f := range flows {
				if isFlow(n, s, sink, f) && value(n, s, f) > most {
					t.Errorf("%v, %d, %d: %v is greater than %d", n, s, sink, f, most)
				}
			}
			for _, table := range tables(n.N) {
				if table[s] && !table[sink] && capacity(n, table) < least {
					t.Errorf("%v, %d, %d: %v is smaller than %d", n, s, sink, table, least)
				}
			}
		})
	}
}

// Check says yes to the results of Max and Cut, and to no others of less value or more capacity.
func TestCheckOfResults(t *testing.T) {
	for _, n := range slices.Concat(small(), large()) {
		s, sink := 0, n.N-1
		most, f, _ := flow.Max(n, s, sink)
		side, least, _ := flow.Cut(n, s, sink)
		if most != least || !flow.Check(n, s, sink, f, side) {
			t.Errorf("%d nodes and %d edges: the value %d and the capacity %d", n.N, len(n.Edges), most, least)
		}
		if most > 0 && flow.Check(n, s, sink, noFlow(n), side) {
			t.Errorf("%d nodes and %d edges: no flow at all, and the capacity %d", n.N, len(n.Edges), least)
		}
	}
}

// The nearest cut is contained in all minimal cuts.
func TestNearestCutIsInAllMinimalCuts(t *testing.T) {
	for _, n := range small() {
		s, sink := n.N-1, 0
		side, least, _ := flow.Cut(n, s, sink)
		for _, table := range tables(n.N) {
			if table[s] && !table[sink] && capacity(n, table) == least && !bits.Subset(side, setOf(table)) {
				t.Errorf("Cut(%v, %d, %d) = %v is not in %v", n, s, sink, side, table)
			}
		}
	}
}

// grown adds to a table what its elements need, shrunk takes out of it those that lack something.
func grown(table []bool, needs [][2]int) []bool {
	return settled(table, needs, func(l []bool, need [2]int) { l[need[1]] = true })
}

func shrunk(table []bool, needs [][2]int) []bool {
	return settled(table, needs, func(l []bool, need [2]int) { l[need[0]] = false })
}

// settled mends a copy of a table until all needs are satisfied.
func settled(table []bool, needs [][2]int, mend func(l []bool, need [2]int)) []bool {
	l := slices.Clone(table)
	for !isClosed(l, needs) {
		for _, need := range needs {
			if l[need[0]] && !l[need[1]] {
				mend(l, need)
			}
		}
	}
	return l
}

// What needs something has it in the closed set. An element more, with what it needs, does not make
// the set better, and an element less, without what needs it, makes it worse.
func TestClosedSetHasWhatIsNeeded(t *testing.T) {
	next := random(14)
	for range 10 {
		weights, needs := make([]int, 500), make([][2]int, 0, 1000)
		for i := range weights {
			weights[i] = next(201) - 100
		}
		for range 500 + next(501) {
			needs = append(needs, [2]int{next(500), next(500)})
		}
		closed, weight, err := flow.Closure(weights, needs)
		table := make([]bool, 500)
		for i := range table {
			table[i] = bits.Has(closed, i)
		}
		if err != api.OK || !isClosed(table, needs) || weightOf(table, weights) != weight {
			t.Errorf("%v, %d, %d is no closed set of this weight", closed, weight, err)
		}
		for i := range table {
			changed := slices.Clone(table)
			changed[i] = !changed[i]
			if table[i] && weightOf(shrunk(changed, needs), weights) >= weight {
				t.Errorf("%v is not worse without the element %d", closed, i)
			}
			if !table[i] && weightOf(grown(changed, needs), weights) > weight {
				t.Errorf("%v is better with the element %d", closed, i)
			}
		}
	}
}

// What applies to all functions

// Neither networks nor lists are changed.
func TestArgumentsStay(t *testing.T) {
	for _, n := range slices.Concat(small(), invalid(), large()[:12]) {
		before := slices.Clone(n.Edges)
		s, sink := 0, n.N-1
		flow.Valid(n)
		_, f, _ := flow.Max(n, s, sink)
		side, _, _ := flow.Cut(n, s, sink)
		flowBefore, words := slices.Clone(f), slices.Clone(side.W)
		flow.Check(n, s, sink, f, side)
		flow.Paths(n, s, sink, f)
		if !slices.Equal(before, n.Edges) || !slices.Equal(flowBefore, f) || !slices.Equal(words, side.W) {
			t.Errorf("an argument was changed: %v, %v, %v", n, f, side)
		}
	}
	weights, needs := []int{5, -3, -4, 0, 7}, [][2]int{{0, 1}, {4, 2}, {3, 3}, {1, 1}}
	flow.Closure(weights, needs)
	if !slices.Equal(weights, []int{5, -3, -4, 0, 7}) || !slices.Equal(needs, [][2]int{{0, 1}, {4, 2}, {3, 3}, {1, 1}}) {
		t.Errorf("an argument was changed: %v, %v", weights, needs)
	}
}

// The capacity of lists beyond their length belongs to the caller.
func TestNothingIsWrittenBehindArguments(t *testing.T) {
	edges := []api.Edge{edge(0, 1, 3), edge(1, 2, 2), edge(7, 7, 7)}
	f, words := []int{2, 2, 9}, []uint64{3, 9}
	n, side := net(3, edges[:2]...), api.Set{N: 3, W: words[:1]}
	n.Edges = edges[:2]
	flow.Max(n, 0, 2)
	flow.Cut(n, 0, 2)
	if !flow.Check(n, 0, 2, f[:2], side) {
		t.Error("Check of a flow and a cut")
	}
	flow.Paths(n, 0, 2, f[:2])
	weights, needs := []int{1, -1, 9}, [][2]int{{0, 1}, {9, 9}}
	flow.Closure(weights[:2], needs[:1])
	if edges[2] != edge(7, 7, 7) || f[2] != 9 || words[1] != 9 || weights[2] != 9 || needs[1] != [2]int{9, 9} {
		t.Error("something was written behind an argument")
	}
}

// Results share no memory with arguments, with each other, and with later results.
func TestMemoryIsNotShared(t *testing.T) {
	n := net(3, edge(0, 1, 3), edge(1, 2, 2), edge(0, 2, 1))
	_, f, _ := flow.Max(n, 0, 2)
	side, _, _ := flow.Cut(n, 0, 2)
	paths, _ := flow.Paths(n, 0, 2, f)
	for i := range f {
		f[i] = -1
	}
	side.W[0] = 0
	for i := range paths {
		for k := range paths[i] {
			paths[i][k] = 10 * i
		}
		paths[i] = append(paths[i], 77)
	}
	for i, path := range paths {
		if last := len(path) - 1; path[last] != 77 || slices.ContainsFunc(path[:last], func(k int) bool { return k != 10*i }) {
			t.Errorf("paths share memory: %v", paths)
		}
	}
	checkMax(t, n, 0, 2, 3)
	checkCut(t, n, 0, 2, set(3, 0, 1), 3)
	checkPaths(t, n, 0, 2, []int{2, 2, 1})
	if !slices.Equal(n.Edges, []api.Edge{edge(0, 1, 3), edge(1, 2, 2), edge(0, 2, 1)}) {
		t.Error("a result shares memory with the network")
	}
	weights, needs := []int{5, -3, -4}, [][2]int{{0, 1}}
	closed, _, _ := flow.Closure(weights, needs)
	closed.W[0] = 0
	checkClosure(t, weights, needs, set(3, 0, 1), 2)
	closed, _, _ = flow.Closure(weights, needs)
	weights[0], needs[0] = -9, [2]int{0, 2}
	if !isEqual(closed, set(3, 0, 1)) {
		t.Error("a result shares memory with the weights")
	}
}

// The same arguments have the same results.
func TestResultsAreTheSameAgain(t *testing.T) {
	for _, n := range slices.Concat(small(), large()) {
		_, f, _ := flow.Max(n, 0, n.N-1)
		_, again, _ := flow.Max(n, 0, n.N-1)
		if !slices.Equal(f, again) {
			t.Errorf("two flows in %v", n)
		}
		paths, _ := flow.Paths(n, 0, n.N-1, f)
		pathsAgain, _ := flow.Paths(n, 0, n.N-1, f)
		if !slices.EqualFunc(paths, pathsAgain, func(a, b []int) bool { return slices.Equal(a, b) }) {
			t.Errorf("two lists of paths in %v", n)
		}
	}
}
