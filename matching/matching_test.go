package matching_test

import (
	"fmt"
	"math"
	"slices"
	"testing"

	"antecede/api"
	"antecede/bits"
	"antecede/matching"
)

// The tests compute by the definitions: sets of nodes are tables of truths, and small graphs have all
// their matchings and covers listed.

type graph struct {
	n, m  int
	edges [][2]int
}

// String has the first edges only.
func (g graph) String() string {
	return fmt.Sprintf("%d, %d, %d edges %v", g.n, g.m, len(g.edges), g.edges[:min(len(g.edges), 12)])
}

func set(n int, members ...int) api.Set {
	table := make([]bool, n)
	for _, i := range members {
		table[i] = true
	}
	return setOf(table)
}

// setOf has the words of a table, which are made bit by bit.
func setOf(table []bool) api.Set {
	words := make([]uint64, (len(table)+63)/64)
	for i, has := range table {
		if has {
			words[i/64] |= uint64(1) << (i % 64)
		}
	}
	return api.Set{N: len(table), W: words}
}

func isEqual(a, b api.Set) bool {
	return a.N == b.N && slices.Equal(a.W, b.W)
}

func isZero(s api.Set) bool {
	return s.N == 0 && len(s.W) == 0
}

// tables are all tables of n truths.
func tables(n int) [][]bool {
	var l [][]bool
	for code := range 1 << n {
		table := make([]bool, n)
		for i := range table {
			table[i] = code>>i%2 == 1
		}
		l = append(l, table)
	}
	return l
}

func count(table []bool) int {
	sum := 0
	for _, has := range table {
		if has {
			sum++
		}
	}
	return sum
}

// isWithin tells whether each number of the table a is in b.
func isWithin(a, b []bool) bool {
	for i := range a {
		if a[i] && !b[i] {
			return false
		}
	}
	return true
}

// isMatching tells whether pairs are edges, no two of which have a node in common.
func isMatching(g graph, pairs [][2]int) bool {
	for i, p := range pairs {
		if !slices.Contains(g.edges, p) {
			return false
		}
		for _, q := range pairs[:i] {
			if p[0] == q[0] || p[1] == q[1] {
				return false
			}
		}
	}
	return true
}

// matchings are all matchings of a graph.
func matchings(g graph) [][][2]int {
	l := [][][2]int{nil}
	for _, x := range g.edges {
		for _, pairs := range l {
			if longer := append(slices.Clone(pairs), x); isMatching(g, longer) {
				l = append(l, longer)
			}
		}
	}
	return l
}

// greatest is the number of edges of the greatest one of all matchings.
func greatest(g graph) int {
	most := 0
	for _, pairs := range matchings(g) {
		most = max(most, len(pairs))
	}
	return most
}

func isCover(g graph, left, right []bool) bool {
	return !slices.ContainsFunc(g.edges, func(x [2]int) bool { return !left[x[0]] && !right[x[1]] })
}

// minimumCovers are all covers with the fewest nodes, a left and a right part each.
func minimumCovers(g graph) [][2][]bool {
	var l [][2][]bool
	least := math.MaxInt
	for _, left := range tables(g.n) {
		for _, right := range tables(g.m) {
			size := count(left) + count(right)
			if size > least || !isCover(g, left, right) {
				continue
			}
			if size < least {
				l, least = nil, size
			}
			l = append(l, [2][]bool{left, right})
		}
	}
	return l
}

func deficiency(g graph, left []bool) int {
	neighbors := make([]bool, g.m)
	for _, x := range g.edges {
		neighbors[x[1]] = neighbors[x[1]] || left[x[0]]
	}
	return count(left) - count(neighbors)
}

// mostDeficient are the sets of left nodes with the greatest deficiency, and this.
func mostDeficient(g graph) ([][]bool, int) {
	var l [][]bool
	most := math.MinInt
	for _, left := range tables(g.n) {
		d := deficiency(g, left)
		if d > most {
			l, most = nil, d
		}
		if d == most {
			l = append(l, left)
		}
	}
	return l, most
}

// random returns numbers below n of a fixed sequence (SplitMix64).
func random(seed uint64) func(n int) int {
	return func(n int) int {
		seed += 0x9e3779b97f4a7c15
		x := seed
		x = (x ^ x>>30) * 0xbf58476d1ce4e5b9
		x = (x ^ x>>27) * 0x94d049bb133111eb
		return int((x ^ x>>31) % uint64(n))
	}
}

func shuffled(l [][2]int, next func(n int) int) [][2]int {
	l = slices.Clone(l)
	for i := range l {
		k := next(i + 1)
		l[i], l[k] = l[k], l[i]
	}
	return l
}

// complete has an edge between each left and each right node.
func complete(n, m int) graph {
	g := graph{n: n, m: m}
	for a := range n {
		for b := range m {
			g.edges = append(g.edges, [2]int{a, b})
		}
	}
	return g
}

// allGraphs are all graphs with so many nodes, their edges in any order.
func allGraphs(n, m int, next func(n int) int) []graph {
	var l []graph
	all := complete(n, m).edges
	for _, table := range tables(len(all)) {
		g := graph{n: n, m: m}
		for i, has := range table {
			if has {
				g.edges = append(g.edges, all[i])
			}
		}
		g.edges = shuffled(g.edges, next)
		l = append(l, g)
	}
	return l
}

// tiny are all graphs with at most 3 left and 3 right nodes.
func tiny() []graph {
	var l []graph
	next := random(1)
	for n := range 4 {
		for m := range 4 {
			l = append(l, allGraphs(n, m, next)...)
		}
	}
	return l
}

func randomGraph(n, m, edges int, next func(n int) int) graph {
	g := graph{n: n, m: m}
	seen := make(map[[2]int]bool)
	for range edges {
		x := [2]int{next(n), next(m)}
		if !seen[x] {
			seen[x] = true
			g.edges = append(g.edges, x)
		}
	}
	return g
}

// small are graphs with so few nodes that all their matchings and covers can be listed.
func small() []graph {
	l := tiny()
	next := random(2)
	l = append(l, allGraphs(1, 5, next)...)
	l = append(l, allGraphs(5, 1, next)...)
	l = append(l, allGraphs(4, 3, next)...)
	l = append(l, allGraphs(2, 4, next)...)
	for edges := range 13 {
		for range 8 {
			l = append(l, randomGraph(5, 5, edges, next), randomGraph(4, 6, edges, next), randomGraph(6, 4, edges, next), randomGraph(6, 5, edges, next))
		}
	}
	return l
}

// zigzag is one path from the left node 0 to the right node n - 1 through all n left and n right
// nodes.
func zigzag(n int) graph {
	g := graph{n: n, m: n}
	for i := range n {
		if i > 0 {
			g.edges = append(g.edges, [2]int{i, i - 1})
		}
		g.edges = append(g.edges, [2]int{i, i})
	}
	return g
}

// detour are the edges of zigzag that end at neither end of the path, which are a maximal matching.
func detour(n int) [][2]int {
	var pairs [][2]int
	for i := 1; i < n; i++ {
		pairs = append(pairs, [2]int{i, i - 1})
	}
	return pairs
}

func reversed(g graph) graph {
	g.edges = slices.Clone(g.edges)
	slices.Reverse(g.edges)
	return g
}

// swapped has the sides swapped.
func swapped(g graph) graph {
	s := graph{n: g.m, m: g.n}
	for _, x := range g.edges {
		s.edges = append(s.edges, [2]int{x[1], x[0]})
	}
	return s
}

// large are graphs with many nodes and edges.
func large() []graph {
	next := random(3)
	l := []graph{{n: 512, m: 512}, {n: 512}, {m: 512}, complete(1, 512), complete(3, 512), complete(44, 45), complete(31, 64), complete(4, 500), zigzag(512), zigzag(65), reversed(zigzag(512))}
	for _, size := range []int{63, 64, 65, 128, 129, 300, 511, 512} {
		for _, edges := range []int{size / 2, size, size * 3 / 2, 2 * size, api.MaxEdges} {
			l = append(l, randomGraph(size, size, edges, next), randomGraph(size, size/3, edges, next), randomGraph(size, 512, edges, next))
		}
	}
	// Left and right nodes in groups, in which one side has more nodes, or the other one.
	groups := graph{n: 512, m: 512}
	for a := range 512 {
		for k := range 3 {
			groups.edges = append(groups.edges, [2]int{a, min(a/16*16+(a*a+5*k)%(1+a/16), 511)})
		}
	}
	slices.SortFunc(groups.edges, func(x, y [2]int) int { return slices.Compare(x[:], y[:]) })
	groups.edges = slices.Compact(groups.edges)
	l = append(l, groups)
	for _, g := range slices.Clone(l) {
		l = append(l, swapped(g), graph{n: g.n, m: g.m, edges: shuffled(g.edges, next)})
	}
	return l
}

// wrong are numbers of nodes that no graph has.
func wrong() []int {
	return []int{-1, -2, -64, -512, 513, 514, 576, 1000, 1 << 32, math.MaxInt, math.MinInt}
}

// invalid are graphs that are not valid.
func invalid() []graph {
	l := []graph{
		{0, 0, [][2]int{{0, 0}}},
		{1, 0, [][2]int{{0, 0}}},
		{0, 1, [][2]int{{0, 0}}},
		{1, 1, [][2]int{{1, 0}}},
		{1, 1, [][2]int{{0, 1}}},
		{2, 2, [][2]int{{0, 0}, {0, 0}}},
		{3, 3, [][2]int{{0, 0}, {1, 1}, {2, 2}, {0, 0}}},
		{3, 3, [][2]int{{0, 0}, {1, 2}, {2, 2}, {1, 2}, {2, 1}}},
		{3, 2, [][2]int{{0, 1}, {1, 2}}},
		{2, 3, [][2]int{{0, 1}, {2, 1}}},
		{2, 2, [][2]int{{0, 1}, {-1, 1}}},
		{2, 2, [][2]int{{0, -1}, {1, 1}}},
		{2, 2, [][2]int{{math.MinInt, math.MaxInt}}},
		{512, 512, complete(512, 4).edges[:2001]},
		{512, 512, complete(512, 4).edges},
		{2, 2, slices.Repeat([][2]int{{1, 1}}, 2000)},
		{512, 512, slices.Repeat([][2]int{{1, 1}}, 100000)},
	}
	for _, size := range wrong() {
		for _, other := range []int{0, 1, 512, 513, -1, size} {
			l = append(l, graph{n: size, m: other}, graph{n: other, m: size}, graph{size, other, [][2]int{{0, 0}}}, graph{other, size, [][2]int{{0, 0}}})
		}
	}
	return l
}

// P5.1

func checkValid(t *testing.T, g graph, want bool) {
	t.Helper()
	if got := matching.Valid(g.n, g.m, g.edges); got != want {
		t.Errorf("Valid of %v = %t", g, got)
	}
}

func TestValid(t *testing.T) {
	for _, g := range slices.Concat(small(), large(), []graph{{}, {edges: [][2]int{}}, {n: 512, m: 512}}) {
		checkValid(t, g, true)
	}
	for _, g := range invalid() {
		checkValid(t, g, false)
		checkValid(t, swapped(g), false)
	}
}

func TestValidSizes(t *testing.T) {
	for n := -3; n <= 515; n++ {
		for _, m := range []int{-1, 0, 1, 7, 511, 512, 513} {
			want := n >= 0 && n <= 512 && m >= 0 && m <= 512
			checkValid(t, graph{n: n, m: m}, want)
			checkValid(t, graph{n: m, m: n}, want)
		}
	}
	edges := complete(512, 5).edges
	for _, c := range []struct {
		edges int
		want  bool
	}{{0, true}, {1, true}, {1999, true}, {2000, true}, {2001, false}, {2002, false}, {2560, false}} {
		checkValid(t, graph{512, 512, edges[:c.edges]}, c.want)
		checkValid(t, swapped(graph{512, 512, edges[:c.edges]}), c.want)
	}
}

// Each single edge decides.
func TestValidEdgeByEdge(t *testing.T) {
	for _, n := range []int{1, 2, 3, 64, 65, 512} {
		good := zigzag(n)
		for i, x := range good.edges {
			changed := func(a, b int) graph {
				edges := slices.Clone(good.edges)
				edges[i] = [2]int{a, b}
				return graph{n, n, edges}
			}
			for _, y := range []int{-1, -2, -64, n, n + 1, n + 64, 1 << 32, math.MaxInt, math.MinInt} {
				checkValid(t, changed(x[0], y), false)
				checkValid(t, changed(y, x[1]), false)
				checkValid(t, changed(y, y), false)
			}
			// The same edge next to it, or far apart.
			for _, k := range []int{0, i - 1, i + 1, len(good.edges) - 1} {
				if k != i && k >= 0 && k < len(good.edges) {
					checkValid(t, changed(good.edges[k][0], good.edges[k][1]), false)
				}
			}
			if n > 3 {
				checkValid(t, changed((x[0]+2)%n, x[1]), true)
			}
		}
	}
}

// checkPairs checks that pairs are a matching with so many edges, ascending by left nodes.
func checkPairs(t *testing.T, what string, g graph, pairs [][2]int, err api.Errno, want int) {
	t.Helper()
	isAscending := true
	for i := 1; i < len(pairs); i++ {
		isAscending = isAscending && pairs[i-1][0] < pairs[i][0]
	}
	if err != api.OK || len(pairs) != want || !isAscending || !isMatching(g, pairs) {
		t.Errorf("%s(%v) = %v, %d, want a matching with %d edges", what, g, pairs[:min(len(pairs), 12)], err, want)
	}
}

func checkMax(t *testing.T, g graph, want int) {
	t.Helper()
	pairs, err := matching.Max(g.n, g.m, g.edges)
	checkPairs(t, "Max", g, pairs, err, want)
}

func TestMax(t *testing.T) {
	for _, g := range small() {
		checkMax(t, g, greatest(g))
	}
}

func TestMaxExamples(t *testing.T) {
	for _, c := range []struct {
		g    graph
		want int
	}{
		{graph{2, 2, [][2]int{{0, 0}, {1, 0}}}, 1},
		{graph{}, 0},
		{graph{n: 3, m: 0}, 0},
		{graph{n: 0, m: 3}, 0},
		{graph{n: 3, m: 3}, 0},
		{graph{1, 1, [][2]int{{0, 0}}}, 1},
		// The first edge has to be given up.
		{graph{2, 2, [][2]int{{0, 0}, {0, 1}, {1, 0}}}, 2},
		{graph{2, 2, [][2]int{{1, 0}, {0, 1}, {0, 0}}}, 2},
		// Only a path over all nodes leads to a maximum.
		{graph{4, 4, [][2]int{{0, 0}, {0, 1}, {1, 1}, {1, 2}, {2, 2}, {2, 3}, {3, 0}}}, 4},
		{graph{3, 3, [][2]int{{0, 0}, {0, 1}, {1, 0}, {2, 0}, {2, 2}}}, 3},
		// Two stars; nodes without an edge.
		{graph{5, 5, [][2]int{{1, 1}, {1, 2}, {1, 3}, {2, 4}, {3, 4}, {4, 4}}}, 2},
		{complete(3, 5), 3},
		{complete(5, 3), 3},
		{complete(44, 45), 44},
		{complete(45, 44), 44},
		{complete(1, 512), 1},
		{complete(512, 1), 1},
		{complete(512, 3), 3},
		{zigzag(512), 512},
		{reversed(zigzag(512)), 512},
		{swapped(zigzag(512)), 512},
		{graph{n: 512, m: 512}, 0},
		{graph{512, 512, [][2]int{{511, 511}}}, 1},
		{graph{512, 512, zigzag(512).edges[1:]}, 511},
	} {
		checkMax(t, c.g, c.want)
	}
}

// reached tells what alternating paths reach from left nodes without an edge of pairs, and whether
// that is a right node without an edge, so that the matching is not maximum.
func reached(g graph, pairs [][2]int) (left, right []bool, isMaximum bool) {
	left, right = slices.Repeat([]bool{true}, g.n), make([]bool, g.m)
	unmatched := slices.Repeat([]bool{true}, g.m)
	for _, p := range pairs {
		left[p[0]], unmatched[p[1]] = false, false
	}
	for changed := true; changed; {
		changed = false
		for _, x := range g.edges {
			if left[x[0]] && !right[x[1]] {
				right[x[1]], changed = true, true
			}
		}
		for _, p := range pairs {
			if right[p[1]] && !left[p[0]] {
				left[p[0]], changed = true, true
			}
		}
	}
	for b := range right {
		if right[b] && unmatched[b] {
			return left, right, false
		}
	}
	return left, right, true
}

func TestMaxOfLargeGraphs(t *testing.T) {
	for _, g := range large() {
		pairs, err := matching.Max(g.n, g.m, g.edges)
		checkPairs(t, "Max", g, pairs, err, len(pairs))
		if _, _, isMaximum := reached(g, pairs); !isMaximum {
			t.Errorf("Max of %v has only %d edges", g, len(pairs))
		}
	}
}

func TestMaxErrors(t *testing.T) {
	for _, g := range invalid() {
		if pairs, err := matching.Max(g.n, g.m, g.edges); len(pairs) != 0 || err != api.ErrArg {
			t.Errorf("Max of %v = %v, %d", g, pairs, err)
		}
	}
}

// P5.2

func checkCover(t *testing.T, g graph, left, right api.Set) {
	t.Helper()
	gotLeft, gotRight, err := matching.Cover(g.n, g.m, g.edges)
	if !isEqual(gotLeft, left) || !isEqual(gotRight, right) || err != api.OK {
		t.Errorf("Cover(%v) = %v, %v, %d, want %v, %v", g, gotLeft, gotRight, err, left, right)
	}
}

// Among all minimum covers there is exactly one whose right part is contained in all right parts.
func TestCover(t *testing.T) {
	for _, g := range small() {
		covers := minimumCovers(g)
		var least [][2][]bool
		for _, c := range covers {
			if !slices.ContainsFunc(covers, func(d [2][]bool) bool { return !isWithin(c[1], d[1]) }) {
				least = append(least, c)
			}
		}
		if len(least) != 1 {
			t.Fatalf("%v has %d least right parts", g, len(least))
		}
		checkCover(t, g, setOf(least[0][0]), setOf(least[0][1]))
	}
}

func TestCoverExamples(t *testing.T) {
	for _, c := range []struct {
		g           graph
		left, right []int
	}{
		{graph{2, 2, [][2]int{{0, 0}, {1, 0}}}, nil, []int{0}},
		{graph{2, 2, [][2]int{{0, 0}, {0, 1}}}, []int{0}, nil},
		{graph{}, nil, nil},
		{graph{n: 3}, nil, nil},
		{graph{m: 3}, nil, nil},
		{graph{n: 65, m: 3}, nil, nil},
		// Of the covers {left 0} and {right 0} the one without a right node.
		{graph{1, 1, [][2]int{{0, 0}}}, []int{0}, nil},
		{graph{3, 3, [][2]int{{0, 0}, {1, 1}, {2, 2}}}, []int{0, 1, 2}, nil},
		{complete(3, 3), []int{0, 1, 2}, nil},
		{complete(2, 3), []int{0, 1}, nil},
		{complete(3, 2), nil, []int{0, 1}},
		// One group needs its right nodes, in the other one the left nodes do.
		{graph{4, 3, [][2]int{{0, 0}, {1, 0}, {2, 1}, {3, 2}}}, []int{2, 3}, []int{0}},
		{graph{4, 3, [][2]int{{0, 0}, {1, 0}, {1, 1}, {2, 1}, {3, 2}}}, []int{3}, []int{0, 1}},
		{graph{3, 2, [][2]int{{0, 0}, {1, 0}, {1, 1}, {2, 1}}}, nil, []int{0, 1}},
		{zigzag(4), []int{0, 1, 2, 3}, nil},
		{complete(512, 1), nil, []int{0}},
		{complete(1, 512), []int{0}, nil},
		{graph{512, 512, [][2]int{{511, 511}, {64, 511}, {65, 63}}}, []int{65}, []int{511}},
	} {
		checkCover(t, c.g, set(c.g.n, c.left...), set(c.g.m, c.right...))
	}
}

// What is reached is in the right part of each cover with as many nodes as a matching has edges.
func TestCoverOfLargeGraphs(t *testing.T) {
	for _, g := range large() {
		pairs, _ := matching.Max(g.n, g.m, g.edges)
		left, right, _ := reached(g, pairs)
		for a := range left {
			left[a] = !left[a]
		}
		if !isCover(g, left, right) || count(left)+count(right) != len(pairs) {
			t.Errorf("%v: what is reached is no cover", g)
		}
		checkCover(t, g, setOf(left), setOf(right))
	}
}

func TestCoverErrors(t *testing.T) {
	for _, g := range invalid() {
		if left, right, err := matching.Cover(g.n, g.m, g.edges); !isZero(left) || !isZero(right) || err != api.ErrArg {
			t.Errorf("Cover of %v = %v, %v, %d", g, left, right, err)
		}
	}
}

// P5.3

func checkCheck(t *testing.T, g graph, pairs [][2]int, left, right api.Set, want bool) {
	t.Helper()
	if got := matching.Check(g.n, g.m, g.edges, pairs, left, right); got != want {
		t.Errorf("Check(%v, %v, %v, %v) = %t", g, pairs[:min(len(pairs), 12)], left, right, got)
	}
}

// lists are all lists of at most two pairs of numbers from -1 to 2, and of three from 0 to 1.
func lists() [][][2]int {
	l := [][][2]int{nil}
	for i := range 16 {
		p := [2]int{i/4 - 1, i%4 - 1}
		l = append(l, [][2]int{p})
		for k := range 16 {
			l = append(l, [][2]int{p, {k/4 - 1, k%4 - 1}})
		}
	}
	for code := range 64 {
		l = append(l, [][2]int{{code >> 5, code >> 4 & 1}, {code >> 3 & 1, code >> 2 & 1}, {code >> 1 & 1, code & 1}})
	}
	return l
}

// All lists of pairs with all sets of nodes.
func TestCheck(t *testing.T) {
	next := random(4)
	for n := range 3 {
		for m := range 3 {
			for _, g := range allGraphs(n, m, next) {
				for _, pairs := range lists() {
					for _, left := range tables(n) {
						for _, right := range tables(m) {
							want := isMatching(g, pairs) && isCover(g, left, right) && len(pairs) == count(left)+count(right)
							checkCheck(t, g, pairs, setOf(left), setOf(right), want)
						}
					}
				}
			}
		}
	}
}

// All matchings, in two orders, with all sets of nodes.
func TestCheckOfMatchings(t *testing.T) {
	next := random(5)
	for _, g := range tiny() {
		for _, pairs := range matchings(g) {
			pairs = shuffled(pairs, next)
			for _, left := range tables(g.n) {
				for _, right := range tables(g.m) {
					want := isCover(g, left, right) && len(pairs) == count(left)+count(right)
					checkCheck(t, g, pairs, setOf(left), setOf(right), want)
				}
			}
		}
	}
}

func TestCheckExamples(t *testing.T) {
	g := graph{3, 3, [][2]int{{0, 0}, {0, 1}, {1, 1}, {2, 1}}}
	checkCheck(t, g, [][2]int{{0, 0}, {2, 1}}, set(3, 0), set(3, 1), true)
	checkCheck(t, g, [][2]int{{2, 1}, {0, 0}}, set(3, 0), set(3, 1), true)
	checkCheck(t, g, [][2]int{{0, 0}, {1, 1}}, set(3), set(3, 0, 1), true)
	// Not as many edges as nodes.
	checkCheck(t, g, [][2]int{{0, 0}}, set(3, 0), set(3, 1), false)
	checkCheck(t, g, nil, set(3, 0), set(3, 1), false)
	checkCheck(t, g, [][2]int{{0, 0}, {1, 1}}, set(3, 0), set(3, 0, 1), false)
	checkCheck(t, g, [][2]int{{0, 0}, {1, 1}}, set(3, 0, 1, 2), set(3), false)
	// An edge is not covered.
	checkCheck(t, g, [][2]int{{0, 0}, {1, 1}}, set(3, 0, 1), set(3), false)
	checkCheck(t, g, [][2]int{{0, 0}, {1, 1}}, set(3, 1), set(3, 1), false)
	checkCheck(t, g, [][2]int{{0, 0}, {1, 1}}, set(3), set(3, 1, 2), false)
	// No matching: a pair that is no edge, twice the same, pairs that meet.
	checkCheck(t, g, [][2]int{{0, 0}, {1, 2}}, set(3, 0), set(3, 1), false)
	checkCheck(t, g, [][2]int{{0, 0}, {0, 0}}, set(3, 0), set(3, 1), false)
	checkCheck(t, g, [][2]int{{0, 0}, {0, 1}}, set(3, 0), set(3, 1), false)
	checkCheck(t, g, [][2]int{{1, 1}, {2, 1}}, set(3, 0), set(3, 1), false)
	// Without edges nothing is to be covered.
	checkCheck(t, graph{}, nil, set(0), set(0), true)
	checkCheck(t, graph{}, [][2]int{}, api.Set{}, api.Set{}, true)
	checkCheck(t, graph{n: 3, m: 70}, nil, set(3), set(70), true)
	checkCheck(t, graph{n: 3, m: 70}, nil, set(3, 0), set(70), false)
	checkCheck(t, graph{n: 3, m: 70}, nil, set(3), set(70, 69), false)
}

func TestCheckOfPairsOutOfRange(t *testing.T) {
	for _, n := range []int{1, 2, 64, 512} {
		g := zigzag(n)
		pairs, _ := matching.Max(n, n, g.edges)
		left, right, _ := matching.Cover(n, n, g.edges)
		checkCheck(t, g, pairs, left, right, true)
		for _, y := range []int{-1, -64, n, n + 64, 1 << 32, math.MaxInt, math.MinInt} {
			for _, p := range [][2]int{{y, 0}, {0, y}, {y, y}} {
				changed := slices.Clone(pairs)
				changed[n/2] = p
				checkCheck(t, g, changed, left, right, false)
			}
		}
		checkCheck(t, g, append(slices.Clone(pairs), pairs...), left, right, false)
		checkCheck(t, g, slices.Repeat(pairs, 3000/n), left, right, false)
	}
}

func TestCheckOfWrongGraphs(t *testing.T) {
	for _, g := range invalid() {
		for _, s := range []api.Set{{}, {N: g.n}, {N: g.m, W: []uint64{1}}, set(2, 1), set(512)} {
			checkCheck(t, g, nil, s, s, false)
			checkCheck(t, g, g.edges, s, s, false)
		}
	}
	// The graphs would have a matching and a cover, if they were valid.
	checkCheck(t, graph{1, 1, [][2]int{{0, 0}, {0, 0}}}, [][2]int{{0, 0}}, set(1, 0), set(1), false)
	checkCheck(t, graph{n: 513, m: 1}, nil, api.Set{N: 513, W: make([]uint64, 9)}, set(1), false)
	checkCheck(t, graph{n: 1, m: 513}, nil, set(1), api.Set{N: 513, W: make([]uint64, 9)}, false)
	checkCheck(t, graph{n: -1, m: 1}, nil, api.Set{N: -1}, set(1), false)
	star := graph{512, 512, nil}
	for b := range 512 {
		star.edges = append(star.edges, [2]int{0, b})
	}
	checkCheck(t, star, [][2]int{{0, 7}}, set(512, 0), set(512), true)
	four := complete(4, 512)
	matched := [][2]int{{0, 0}, {1, 1}, {2, 2}, {3, 3}}
	checkCheck(t, graph{4, 512, four.edges[:2000]}, matched, set(4, 0, 1, 2, 3), set(512), true)
	checkCheck(t, graph{4, 512, four.edges[:2001]}, matched, set(4, 0, 1, 2, 3), set(512), false)
}

// wrongSets are sets that are not valid, or have another size than n.
func wrongSets(n int) []api.Set {
	l := []api.Set{
		{N: n + 1, W: set(n).W}, {N: n - 1, W: set(n).W}, {N: -n - 1}, {N: math.MinInt}, {N: math.MaxInt, W: []uint64{1}},
		{N: n, W: append(set(n).W, 0)}, set(n + 1), set(n + 64),
	}
	if n > 0 {
		l = append(l, api.Set{}, api.Set{N: n}, api.Set{N: n, W: set(n).W[1:]}, set(n-1), api.Set{N: -n, W: set(n).W})
	}
	if n%64 != 0 {
		beyond := set(n)
		beyond.W[n/64] |= uint64(1) << (n % 64)
		full := set(n)
		full.W[n/64] = math.MaxUint64
		l = append(l, beyond, full)
	}
	return l
}

func TestCheckOfWrongSets(t *testing.T) {
	for _, n := range []int{0, 1, 2, 63, 64, 65, 511, 512} {
		for _, m := range []int{0, 1, 64, 65, 512} {
			g := graph{n: n, m: m}
			checkCheck(t, g, nil, set(n), set(m), true)
			for _, s := range wrongSets(n) {
				checkCheck(t, g, nil, s, set(m), false)
			}
			for _, s := range wrongSets(m) {
				checkCheck(t, g, nil, set(n), s, false)
			}
		}
		// A number beyond a set does not count.
		if n%64 != 0 {
			beyond := set(n)
			beyond.W[n/64] |= uint64(1) << (n % 64)
			g := graph{n, n, [][2]int{{0, 0}}}
			checkCheck(t, g, [][2]int{{0, 0}}, set(n, 0), set(n), true)
			checkCheck(t, g, [][2]int{{0, 0}}, beyond, set(n), false)
			checkCheck(t, g, [][2]int{{0, 0}}, set(n), beyond, false)
			checkCheck(t, g, [][2]int{{0, 0}}, set(n, 0), beyond, false)
		}
	}
	// The sizes of the sides, swapped.
	g := graph{2, 3, [][2]int{{0, 0}}}
	checkCheck(t, g, [][2]int{{0, 0}}, set(2, 0), set(3), true)
	checkCheck(t, g, [][2]int{{0, 0}}, set(3, 0), set(2), false)
	checkCheck(t, g, [][2]int{{0, 0}}, set(3, 0), set(3), false)
	checkCheck(t, g, [][2]int{{0, 0}}, set(2, 0), set(2), false)
}

// P5.4

func checkHall(t *testing.T, g graph, want api.Set) {
	t.Helper()
	if got, err := matching.Hall(g.n, g.m, g.edges); !isEqual(got, want) || err != api.OK {
		t.Errorf("Hall(%v) = %v, %d, want %v", g, got, err, want)
	}
}

func checkNoHall(t *testing.T, g graph, want api.Errno) {
	t.Helper()
	if got, err := matching.Hall(g.n, g.m, g.edges); !isZero(got) || err != want {
		t.Errorf("Hall of %v = %v, %d, want the error %d", g, got, err, want)
	}
}

func TestHall(t *testing.T) {
	for _, g := range small() {
		if greatest(g) == g.n {
			checkNoHall(t, g, api.ErrNone)
			continue
		}
		sets, most := mostDeficient(g)
		least := sets[0]
		for _, s := range sets {
			if count(s) < count(least) {
				least = s
			}
		}
		for _, s := range sets {
			if !isWithin(least, s) {
				t.Fatalf("%v: of the deficiency %d, %v is not in %v", g, most, least, s)
			}
		}
		checkHall(t, g, setOf(least))
	}
}

func TestHallExamples(t *testing.T) {
	for _, c := range []struct {
		g    graph
		want []int
	}{
		{graph{2, 2, [][2]int{{0, 0}, {1, 0}}}, []int{0, 1}},
		{graph{n: 1}, []int{0}},
		{graph{n: 3, m: 3}, []int{0, 1, 2}},
		// A node with the only neighbor of one without is not in the least set.
		{graph{3, 2, [][2]int{{1, 0}}}, []int{0, 2}},
		{graph{4, 4, [][2]int{{0, 0}, {1, 0}, {2, 1}, {3, 2}, {3, 3}}}, []int{0, 1}},
		{graph{4, 3, [][2]int{{0, 0}, {1, 0}, {2, 0}, {2, 1}, {3, 1}}}, []int{0, 1, 2, 3}},
		{graph{4, 3, [][2]int{{0, 0}, {1, 0}, {2, 0}, {2, 1}, {3, 1}, {2, 2}}}, []int{0, 1}},
		// Two sets of one deficiency each make one of two.
		{graph{5, 5, [][2]int{{0, 0}, {1, 0}, {2, 1}, {3, 1}, {4, 0}, {4, 2}}}, []int{0, 1, 2, 3}},
		{complete(3, 2), []int{0, 1, 2}},
		{complete(512, 1), nil},
	} {
		want := set(c.g.n, c.want...)
		if c.want == nil {
			want = setOf(slices.Repeat([]bool{true}, c.g.n))
		}
		checkHall(t, c.g, want)
	}
	for _, g := range []graph{{}, {m: 3}, {m: 512}, complete(1, 1), complete(3, 3), complete(2, 3), zigzag(512), complete(1, 512), complete(44, 45)} {
		checkNoHall(t, g, api.ErrNone)
	}
	for _, g := range invalid() {
		checkNoHall(t, g, api.ErrArg)
	}
}

func TestHallOfLargeGraphs(t *testing.T) {
	for _, g := range large() {
		pairs, _ := matching.Max(g.n, g.m, g.edges)
		if len(pairs) == g.n {
			checkNoHall(t, g, api.ErrNone)
			continue
		}
		left, _, _ := reached(g, pairs)
		if deficiency(g, left) != g.n-len(pairs) {
			t.Errorf("%v: what is reached has the deficiency %d", g, deficiency(g, left))
		}
		checkHall(t, g, setOf(left))
	}
}

// P5.5

// checkAugment checks that there is a matching with one edge more, and returns it.
func checkAugment(t *testing.T, g graph, pairs [][2]int) [][2]int {
	t.Helper()
	got, err := matching.Augment(g.n, g.m, g.edges, pairs)
	checkPairs(t, "Augment", g, got, err, len(pairs)+1)
	for _, p := range pairs {
		hasLeft := slices.ContainsFunc(got, func(q [2]int) bool { return q[0] == p[0] })
		hasRight := slices.ContainsFunc(got, func(q [2]int) bool { return q[1] == p[1] })
		if !hasLeft || !hasRight {
			t.Errorf("Augment(%v, %v) = %v: a node of %v has no edge", g, pairs, got, p)
		}
	}
	return got
}

func checkNoAugment(t *testing.T, g graph, pairs [][2]int, want api.Errno) {
	t.Helper()
	if got, err := matching.Augment(g.n, g.m, g.edges, pairs); len(got) != 0 || err != want {
		t.Errorf("Augment(%v, %v) = %v, %d, want the error %d", g, pairs[:min(len(pairs), 12)], got, err, want)
	}
}

// All matchings of all small graphs, in any order.
func TestAugment(t *testing.T) {
	next := random(6)
	for _, g := range small() {
		all := matchings(g)
		most := greatest(g)
		for _, pairs := range all {
			pairs = shuffled(pairs, next)
			if len(pairs) == most {
				checkNoAugment(t, g, pairs, api.ErrNone)
			} else {
				checkAugment(t, g, pairs)
			}
		}
	}
}

// All lists of pairs, of which most are no matching.
func TestAugmentOfAnyPairs(t *testing.T) {
	next := random(7)
	for n := range 3 {
		for m := range 3 {
			for _, g := range allGraphs(n, m, next) {
				most := greatest(g)
				for _, pairs := range lists() {
					switch {
					case !isMatching(g, pairs):
						checkNoAugment(t, g, pairs, api.ErrProof)
					case len(pairs) == most:
						checkNoAugment(t, g, pairs, api.ErrNone)
					default:
						checkAugment(t, g, pairs)
					}
				}
			}
		}
	}
}

func TestAugmentExamples(t *testing.T) {
	g := graph{2, 2, [][2]int{{0, 0}, {0, 1}, {1, 0}}}
	checkThe := func(g graph, pairs [][2]int, want ...[2]int) {
		t.Helper()
		if got := checkAugment(t, g, pairs); !slices.Equal(got, want) {
			t.Errorf("Augment(%v, %v) = %v, want %v", g, pairs, got, want)
		}
	}
	// A matching that is maximal, but not maximum.
	checkThe(g, [][2]int{{0, 0}}, [2]int{0, 1}, [2]int{1, 0})
	checkThe(g, [][2]int{{0, 1}}, [2]int{0, 1}, [2]int{1, 0})
	checkThe(g, [][2]int{{1, 0}}, [2]int{0, 1}, [2]int{1, 0})
	checkNoAugment(t, g, [][2]int{{1, 0}, {0, 1}}, api.ErrNone)
	checkNoAugment(t, g, [][2]int{{0, 1}, {1, 0}}, api.ErrNone)
	checkThe(complete(1, 1), nil, [2]int{0, 0})
	// The example of the chapter.
	star := graph{2, 2, [][2]int{{0, 0}, {1, 0}}}
	checkAugment(t, star, nil)
	checkNoAugment(t, star, [][2]int{{1, 0}}, api.ErrNone)
	// Pairs that are no matching, also if they have as many edges as a maximum one, or more.
	for _, pairs := range [][][2]int{{{1, 1}}, {{0, 2}}, {{2, 0}}, {{-1, 0}}, {{0, -1}}, {{0, 0}, {0, 0}}, {{0, 0}, {0, 1}}, {{0, 0}, {1, 0}}, {{0, 1}, {1, 0}, {1, 0}}, {{0, 1}, {1, 0}, {1, 1}}, {{1, 0}, {0, 1}, {0, 0}}} {
		checkNoAugment(t, g, pairs, api.ErrProof)
	}
	// Without an edge there is nothing to add.
	for _, h := range []graph{{}, {n: 3}, {m: 3}, {n: 512, m: 512}} {
		checkNoAugment(t, h, nil, api.ErrNone)
		checkNoAugment(t, h, [][2]int{}, api.ErrNone)
		checkNoAugment(t, h, [][2]int{{0, 0}}, api.ErrProof)
	}
	checkNoAugment(t, g, slices.Repeat([][2]int{{0, 0}}, 100000), api.ErrProof)
}

// The only path leads through all nodes.
func TestAugmentLongPaths(t *testing.T) {
	for _, n := range []int{2, 3, 64, 65, 511, 512} {
		g, pairs := zigzag(n), detour(n)
		for _, h := range []graph{g, reversed(g)} {
			got := checkAugment(t, h, pairs)
			checkNoAugment(t, h, got, api.ErrNone)
			slices.Reverse(pairs)
		}
		// Without one of the edges at the ends of the path, there is none.
		first, last := slices.Index(g.edges, [2]int{0, 0}), slices.Index(g.edges, [2]int{n - 1, n - 1})
		for _, i := range []int{first, last} {
			checkNoAugment(t, graph{n, n, slices.Delete(slices.Clone(g.edges), i, i+1)}, pairs, api.ErrNone)
		}
	}
}

// maximal takes each edge that meets none of those before, the last edges first.
func maximal(g graph) [][2]int {
	var pairs [][2]int
	left, right := make([]bool, g.n), make([]bool, g.m)
	for _, x := range reversed(g).edges {
		if !left[x[0]] && !right[x[1]] {
			left[x[0]], right[x[1]] = true, true
			pairs = append(pairs, x)
		}
	}
	return pairs
}

// From a maximal matching step by step to a maximum one.
func TestAugmentOfLargeGraphs(t *testing.T) {
	for _, g := range large() {
		best, _ := matching.Max(g.n, g.m, g.edges)
		pairs := maximal(g)
		for range len(best) - len(pairs) {
			longer, err := matching.Augment(g.n, g.m, g.edges, pairs)
			if err != api.OK || len(longer) != len(pairs)+1 {
				t.Fatalf("Augment of %d of %d edges = %v, %d", len(pairs), len(best), longer, err)
			}
			pairs = longer
		}
		slices.SortFunc(pairs, func(x, y [2]int) int { return x[0] - y[0] })
		checkPairs(t, "Augment", g, pairs, api.OK, len(best))
		checkNoAugment(t, g, pairs, api.ErrNone)
		checkNoAugment(t, g, best, api.ErrNone)
		if len(best) > 0 {
			checkAugment(t, g, best[1:])
			checkAugment(t, g, best[:len(best)/2])
			checkNoAugment(t, g, append(best, best[0]), api.ErrProof)
		}
	}
}

func TestAugmentErrors(t *testing.T) {
	for _, g := range invalid() {
		// ErrArg comes first.
		for _, pairs := range [][][2]int{nil, g.edges, {{0, 0}}, {{-1, 0}}, {{0, 0}, {0, 0}}, {{math.MaxInt, math.MinInt}}} {
			checkNoAugment(t, g, pairs, api.ErrArg)
		}
	}
	for _, n := range []int{1, 2, 64, 512} {
		g := zigzag(n)
		for _, y := range []int{-1, -2, -64, n, n + 1, n + 64, 1 << 32, math.MaxInt, math.MinInt} {
			for _, p := range [][2]int{{y, 0}, {0, y}, {y, y}, {n - 1, y}, {y, n - 1}} {
				checkNoAugment(t, g, [][2]int{p}, api.ErrProof)
				checkNoAugment(t, g, append(detour(n), p), api.ErrProof)
				checkNoAugment(t, g, append([][2]int{p}, detour(n)...), api.ErrProof)
			}
		}
	}
}

// P5.6

// A maximum matching has as many edges as a minimum cover has nodes (König), and Check says so.
func TestKoenig(t *testing.T) {
	for _, g := range slices.Concat(small(), large()) {
		pairs, _ := matching.Max(g.n, g.m, g.edges)
		left, right, _ := matching.Cover(g.n, g.m, g.edges)
		if len(pairs) != bits.Count(left)+bits.Count(right) {
			t.Errorf("%v: %d edges, and the cover %v, %v", g, len(pairs), left, right)
		}
		checkCheck(t, g, pairs, left, right, true)
		slices.Reverse(pairs)
		checkCheck(t, g, pairs, left, right, true)
		if len(pairs) > 0 {
			checkCheck(t, g, pairs[1:], left, right, false)
		}
	}
}

// The greatest deficiency is the number of left nodes that remain, if some do (Hall).
func TestHallsTheorem(t *testing.T) {
	for _, g := range small() {
		pairs, _ := matching.Max(g.n, g.m, g.edges)
		s, err := matching.Hall(g.n, g.m, g.edges)
		_, most := mostDeficient(g)
		if most != g.n-len(pairs) || (err == api.ErrNone) != (most == 0) {
			t.Errorf("%v: the deficiency %d, %d edges, and the error %d", g, most, len(pairs), err)
		}
		left := make([]bool, g.n)
		for a := range left {
			left[a] = bits.Has(s, a)
		}
		if d := deficiency(g, left); d != most {
			t.Errorf("%v: %v has the deficiency %d, and not %d", g, s, d, most)
		}
	}
}

// A matching is maximum exactly if it cannot be augmented (Berge).
func TestBerge(t *testing.T) {
	for _, g := range small() {
		best, _ := matching.Max(g.n, g.m, g.edges)
		for _, pairs := range matchings(g) {
			_, err := matching.Augment(g.n, g.m, g.edges, pairs)
			if (err == api.ErrNone) != (len(pairs) == len(best)) {
				t.Errorf("%v: Augment(%v) has the error %d, and %v is maximum", g, pairs, err, best)
			}
		}
	}
}

// P1: arguments stay as they are, results are new memory and the same again.

// padded has the pairs at the begin of a longer list.
func padded(pairs [][2]int) [][2]int {
	return append(slices.Clone(pairs), [2]int{-7, -8}, [2]int{-9, -10})[:len(pairs)]
}

// kept are the pairs and what is behind them.
func kept(pairs [][2]int) [][2]int {
	return slices.Clone(pairs[:len(pairs)+2])
}

func TestArgumentsStay(t *testing.T) {
	next := random(8)
	for _, g := range slices.Concat(tiny(), large(), invalid()) {
		edges := padded(shuffled(g.edges, next))
		pairs, _ := matching.Max(g.n, g.m, g.edges)
		pairs = padded(shuffled(pairs[len(pairs)/3:], next))
		left, right, _ := matching.Cover(g.n, g.m, g.edges)
		oldEdges, oldPairs := kept(edges), kept(pairs)
		oldLeft, oldRight := slices.Clone(left.W), slices.Clone(right.W)
		matching.Valid(g.n, g.m, edges)
		matching.Max(g.n, g.m, edges)
		matching.Cover(g.n, g.m, edges)
		matching.Check(g.n, g.m, edges, pairs, left, right)
		matching.Hall(g.n, g.m, edges)
		matching.Augment(g.n, g.m, edges, pairs)
		if !slices.Equal(kept(edges), oldEdges) || !slices.Equal(kept(pairs), oldPairs) {
			t.Errorf("%v: edges or pairs have changed", g)
		}
		if !slices.Equal(left.W, oldLeft) || !slices.Equal(right.W, oldRight) {
			t.Errorf("%v: a set has changed", g)
		}
	}
}

// spoil overwrites a list, and what can be appended to it.
func spoil[T any](l []T, value T) {
	l = l[:cap(l)]
	for i := range l {
		l[i] = value
	}
}

func TestResultsAreNew(t *testing.T) {
	bad := [2]int{-5, -6}
	for _, g := range slices.Concat(tiny(), large()) {
		edges := slices.Clone(g.edges)
		pairs, _ := matching.Max(g.n, g.m, edges)
		given := slices.Clone(pairs[len(pairs)/2:])
		oldGiven := slices.Clone(given)
		longer, _ := matching.Augment(g.n, g.m, edges, given)
		left, right, _ := matching.Cover(g.n, g.m, edges)
		hall, _ := matching.Hall(g.n, g.m, edges)
		oldPairs, oldLonger := slices.Clone(pairs), slices.Clone(longer)
		oldRight, oldHall := slices.Clone(right.W), slices.Clone(hall.W)
		spoil(left.W, 0xdead)
		if !slices.Equal(right.W, oldRight) {
			t.Errorf("%v: the parts of a cover share memory", g)
		}
		spoil(right.W, 0xdead)
		spoil(pairs, bad)
		if !slices.Equal(hall.W, oldHall) || !slices.Equal(longer, oldLonger) {
			t.Errorf("%v: two results share memory", g)
		}
		spoil(hall.W, 0xdead)
		spoil(longer, bad)
		if !slices.Equal(edges, g.edges) || !slices.Equal(given, oldGiven) {
			t.Errorf("%v: a result shares memory with an argument", g)
		}
		again, _ := matching.Max(g.n, g.m, edges)
		againLonger, _ := matching.Augment(g.n, g.m, edges, given)
		_, againRight, _ := matching.Cover(g.n, g.m, edges)
		againHall, _ := matching.Hall(g.n, g.m, edges)
		if !slices.Equal(again, oldPairs) || !slices.Equal(againLonger, oldLonger) || !slices.Equal(againRight.W, oldRight) || !slices.Equal(againHall.W, oldHall) {
			t.Errorf("%v: other results the second time", g)
		}
	}
}
