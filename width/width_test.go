package width_test

import (
	"fmt"
	"math"
	"slices"
	"testing"

	"antecede/api"
	"antecede/width"
)

// table is a relation as a table of truths: table[i][j] tells whether i is related to j. The tests
// compute with tables by the definitions.
type table [][]bool

func newTable(n int, has func(i, j int) bool) table {
	t := make(table, n)
	for i := range t {
		t[i] = make([]bool, n)
		for j := range t[i] {
			t[i][j] = has(i, j)
		}
	}
	return t
}

func tableOf(n int, pairs ...[2]int) table {
	return newTable(n, func(i, j int) bool { return slices.Contains(pairs, [2]int{i, j}) })
}

func (t table) pairs() [][2]int {
	var l [][2]int
	for i := range t {
		for j := range t {
			if t[i][j] {
				l = append(l, [2]int{i, j})
			}
		}
	}
	return l
}

// String is short for many pairs.
func (t table) String() string {
	l := t.pairs()
	if len(l) > 40 {
		return fmt.Sprintf("%v.. (%d pairs of %d numbers)", l[:40], len(l), len(t))
	}
	return fmt.Sprintf("%v (of %d numbers)", l, len(t))
}

// relation has rows of its own, which are made bit by bit.
func (t table) relation() api.Relation {
	r := api.Relation{Rows: make([]api.Set, len(t))}
	for i := range t {
		r.Rows[i] = setOf(t[i])
	}
	return r
}

func (t table) with(i, j int, truth bool) table {
	return newTable(len(t), func(a, b int) bool {
		if a == i && b == j {
			return truth
		}
		return t[a][b]
	})
}

func (t table) isOrder() bool {
	for i := range t {
		if t[i][i] {
			return false
		}
		for j := range t {
			for k := range t {
				if t[i][j] && t[j][k] && !t[i][k] {
					return false
				}
			}
		}
	}
	return true
}

// reached returns which numbers sequences of steps from i lead to, for each i.
func (t table) reached() table {
	result := newTable(len(t), func(i, j int) bool { return false })
	for i := range t {
		var visit func(k int)
		visit = func(k int) {
			for j := range t {
				if t[k][j] && !result[i][j] {
					result[i][j] = true
					visit(j)
				}
			}
		}
		visit(i)
	}
	return result
}

// renamed calls the number names[i] of t i.
func (t table) renamed(names []int) table {
	return newTable(len(names), func(i, j int) bool { return t[names[i]][names[j]] })
}

func (t table) isChain(l []int) bool {
	for k, i := range l {
		if i < 0 || i >= len(t) || slices.Index(l, i) < k {
			return false
		}
		if k > 0 && !t[l[k-1]][i] {
			return false
		}
	}
	return true
}

func (t table) isAntichain(s truths) bool {
	for i := range t {
		for j := range t {
			if s[i] && s[j] && t[i][j] {
				return false
			}
		}
	}
	return true
}

func (t table) isPartition(chains [][]int) bool {
	times := make([]int, len(t))
	for _, chain := range chains {
		if len(chain) == 0 || !t.isChain(chain) {
			return false
		}
		for _, i := range chain {
			times[i]++
		}
	}
	return !slices.ContainsFunc(times, func(n int) bool { return n != 1 })
}

// width tries all sets.
func (t table) width() int {
	return t.greatestAntichain().count()
}

func (t table) greatestAntichain() truths {
	greatest := make(truths, len(t))
	for _, s := range subsets(len(t)) {
		if s.count() > greatest.count() && t.isAntichain(s) {
			greatest = s
		}
	}
	return greatest
}

// height goes through the numbers until no chain that ends with one of them becomes longer.
func (t table) height() int {
	if len(t) == 0 {
		return 0
	}
	pairs := t.pairs()
	heights := slices.Repeat([]int{1}, len(t))
	for isChanged := true; isChanged; {
		isChanged = false
		for _, pair := range pairs {
			if heights[pair[1]] <= heights[pair[0]] {
				heights[pair[1]] = heights[pair[0]] + 1
				isChanged = true
			}
		}
	}
	return slices.Max(heights)
}

// truths is a set as a list of truths.
type truths []bool

func newTruths(n int, has func(i int) bool) truths {
	s := make(truths, n)
	for i := range s {
		s[i] = has(i)
	}
	return s
}

func truthsOf(n int, members ...int) truths {
	return newTruths(n, func(i int) bool { return slices.Contains(members, i) })
}

func (s truths) members() []int {
	var l []int
	for i, truth := range s {
		if truth {
			l = append(l, i)
		}
	}
	return l
}

func (s truths) count() int {
	return len(s.members())
}

func setOf(s truths) api.Set {
	var words []uint64
	for i, truth := range s {
		if i%64 == 0 {
			words = append(words, 0)
		}
		if truth {
			words[i/64] |= uint64(1) << (i % 64)
		}
	}
	return api.Set{N: len(s), W: words}
}

// read returns a set of n numbers as truths, and tells whether it is one.
func read(n int, s api.Set) (truths, bool) {
	if s.N != n || len(s.W) != (n+63)/64 {
		return nil, false
	}
	l := newTruths(n, func(i int) bool { return s.W[i/64]>>(i%64)%2 == 1 })
	return l, slices.Equal(setOf(l).W, s.W)
}

// random returns numbers below n of a fixed sequence (SplitMix64).
func random(seed uint64) func(n int) int {
	return func(n int) int {
		seed += 0x9e3779b97f4a7c15
		x := seed
		x = (x ^ x>>30) * 0xbf58476d1ce4e5b9
		x = (x ^ x>>27) * 0x94d049bb133111eb
		return int((x ^ x>>31) % uint64(n))
	}
}

// numbers are those from 0 to n - 1.
func numbers(n int) []int {
	l := make([]int, n)
	for i := range l {
		l[i] = i
	}
	return l
}

func reversed(l []int) []int {
	l = slices.Clone(l)
	slices.Reverse(l)
	return l
}

// shuffled returns the numbers from 0 to n - 1 in some order.
func shuffled(n int, next func(n int) int) []int {
	l := numbers(n)
	for i := range l {
		k := next(i + 1)
		l[i], l[k] = l[k], l[i]
	}
	return l
}

// all are the tables of all relations on n numbers.
func all(n int) []table {
	var l []table
	for code := range 1 << (n * n) {
		l = append(l, newTable(n, func(i, j int) bool { return code>>(i*n+j)%2 == 1 }))
	}
	return l
}

// orders are the tables of all orders of n numbers: those of n - 1 numbers with one more, for which
// each other one is less, or greater, or neither.
func orders(n int) []table {
	if n == 0 {
		return []table{{}}
	}
	var l []table
	for _, smaller := range orders(n - 1) {
		for lower := range 1 << (n - 1) {
			for upper := range 1 << (n - 1) {
				t := newTable(n, func(i, j int) bool {
					switch {
					case i == n-1 && j == n-1:
						return false
					case i == n-1:
						return upper>>j%2 == 1
					case j == n-1:
						return lower>>i%2 == 1
					}
					return smaller[i][j]
				})
				if t.isOrder() {
					l = append(l, t)
				}
			}
		}
	}
	return l
}

func small() []table {
	return slices.Concat(orders(0), orders(1), orders(2), orders(3), orders(4))
}

// subsets are all sets with N = n.
func subsets(n int) []truths {
	var l []truths
	for code := range 1 << n {
		l = append(l, newTruths(n, func(i int) bool { return code>>i%2 == 1 }))
	}
	return l
}

// sample is an order whose width and height are known.
type sample struct {
	order         table
	width, height int
}

func chain(n int) table {
	return newTable(n, func(i, j int) bool { return i < j })
}

func noPairs(n int) table {
	return newTable(n, func(i, j int) bool { return false })
}

// layers has as many numbers in each layer as given, each one less than all of the next layers.
func layers(sizes ...int) table {
	var layer []int
	for k, size := range sizes {
		layer = append(layer, slices.Repeat([]int{k}, size)...)
	}
	return newTable(len(layer), func(i, j int) bool { return layer[i] < layer[j] })
}

// equalChains are count chains of length numbers.
func equalChains(count, length int) table {
	return newTable(count*length, func(i, j int) bool { return i < j && i/length == j/length })
}

// beside puts orders beside each other, without pairs between them.
func beside(l ...table) table {
	if len(l) == 1 {
		return l[0]
	}
	first, others := l[0], beside(l[1:]...)
	m := len(first)
	return newTable(m+len(others), func(i, j int) bool {
		switch {
		case i < m && j < m:
			return first[i][j]
		case i >= m && j >= m:
			return others[i-m][j-m]
		}
		return false
	})
}

// grid is the product of two chains.
func grid(a, b int) table {
	return newTable(a*b, func(i, j int) bool { return i != j && i/b <= j/b && i%b <= j%b })
}

// subsetsOf are the sets of n numbers, by inclusion.
func subsetsOf(n int) table {
	return newTable(1<<n, func(i, j int) bool { return i != j && i&j == i })
}

// crown is the standard example: each lower number is less than all upper ones but its own.
func crown(n int) table {
	return newTable(2*n, func(i, j int) bool { return i < n && j >= n && j != i+n })
}

// fence goes up and down: 0 < 1 > 2 < 3 ..
func fence(n int) table {
	return newTable(n, func(i, j int) bool { return i%2 == 0 && (j == i-1 || j == i+1) })
}

// tree has n numbers, each of which is less than its two children and all that follow them.
func tree(n int) table {
	return newTable(n, func(i, j int) bool { return i != j && (j == 2*i+1 || j == 2*i+2) }).reached()
}

// divisors are the numbers from 1 to n, by divisibility.
func divisors(n int) table {
	return newTable(n, func(i, j int) bool { return i != j && (j+1)%(i+1) == 0 })
}

// apart are numbers one of which is less than those that are at least distance greater.
func apart(n, distance int) table {
	return newTable(n, func(i, j int) bool { return j-i >= distance })
}

// known are orders with at most MaxEdges pairs.
func known() []sample {
	l := []sample{
		{noPairs(0), 0, 0},
		{noPairs(1), 1, 1},
		{noPairs(2), 2, 1},
		{noPairs(63), 63, 1},
		{noPairs(64), 64, 1},
		{noPairs(65), 65, 1},
		{noPairs(511), 511, 1},
		{noPairs(512), 512, 1},
		{chain(2), 1, 2},
		{chain(3), 1, 3},
		{chain(62), 1, 62},
		{chain(63), 1, 63},
		{layers(1, 2, 1), 2, 3},
		{beside(chain(63), noPairs(1)), 2, 63},
		{beside(chain(63), noPairs(2)), 3, 63},
		{beside(chain(62), chain(2)), 2, 62},
		{equalChains(2, 32), 2, 32},
		{equalChains(32, 2), 32, 2},
		{equalChains(5, 13), 5, 13},
		{equalChains(21, 3), 21, 3},
		{equalChains(256, 2), 256, 2},
		{equalChains(64, 8), 64, 8},
		{layers(1, 64), 64, 2},
		{layers(64, 1), 64, 2},
		{layers(1, 511), 511, 2},
		{layers(500, 4), 500, 2},
		{layers(5, 6, 7, 8, 9), 9, 5},
		{layers(9, 1, 9, 1, 9), 9, 5},
		{layers(31, 33), 33, 2},
		{grid(9, 9), 9, 17},
		{grid(2, 30), 2, 31},
		{grid(3, 16), 3, 18},
		{grid(8, 8), 8, 15},
		{grid(5, 13), 5, 17},
		{subsetsOf(2), 2, 3},
		{subsetsOf(3), 3, 4},
		{subsetsOf(5), 10, 6},
		{subsetsOf(6), 20, 7},
		{crown(2), 2, 2},
		{crown(32), 32, 2},
		{crown(45), 45, 2},
		{fence(4), 2, 2},
		{fence(5), 3, 2},
		{fence(64), 32, 2},
		{fence(65), 33, 2},
		{fence(511), 256, 2},
		{fence(512), 256, 2},
		{tree(6), 3, 3},
		{tree(64), 32, 7},
		{tree(255), 128, 8},
		{divisors(6), 3, 3},
		{divisors(64), 32, 7},
		{divisors(380), 190, 9},
		{apart(65, 7), 7, 10},
		{apart(300, 240), 240, 2},
		{apart(512, 450), 450, 2},
		// No level is a greatest antichain.
		{beside(layers(1, 3), layers(3, 1)), 6, 2},
		{beside(layers(1, 10), layers(10, 1), chain(5)), 21, 5},
		// No greatest antichain has only minimal, or only maximal numbers.
		{beside(layers(1, 3, 1), layers(2, 1, 4)), 7, 3},
		// A longest chain that takes too much: without it more chains are needed than one less.
		{tableOf(6, [2]int{0, 1}, [2]int{1, 2}, [2]int{2, 3}, [2]int{4, 2}, [2]int{1, 5}).reached(), 2, 4},
	}
	return slices.Concat(l, full())
}

// full are orders with exactly MaxEdges pairs.
func full() []sample {
	return []sample{
		{layers(40, 50), 50, 2},
		{layers(50, 40), 50, 2},
		{beside(layers(4, 500), noPairs(8)), 508, 2},
		{beside(chain(63), equalChains(47, 2)), 48, 63},
		{beside(chain(63), layers(1, 47)), 48, 63},
		{beside(layers(20, 20, 20, 13), equalChains(20, 2)), 40, 4},
	}
}

// tooMany are orders with more than MaxEdges pairs: the first ones with one more.
func tooMany() []sample {
	return []sample{
		{layers(29, 69), 69, 2},
		{layers(69, 29), 69, 2},
		{beside(chain(63), equalChains(48, 2)), 49, 63},
		{beside(chain(63), layers(48, 1)), 49, 63},
		{beside(layers(4, 500), chain(2)), 501, 2},
		{chain(64), 1, 64},
		{chain(65), 1, 65},
		{chain(512), 1, 512},
		{layers(2, 2, 500), 500, 3},
		{layers(256, 256), 256, 2},
		{subsetsOf(7), 35, 8},
		{grid(10, 10), 10, 19},
		{crown(46), 46, 2},
		{divisors(512), 256, 10},
	}
}

// named are the same orders with other names of the numbers: as they are, so that most pairs go up,
// in the opposite order, so that they go down, and in some order.
func named(l []sample, seed uint64) []sample {
	next := random(seed)
	var result []sample
	for _, s := range l {
		n := len(s.order)
		for _, names := range [][]int{numbers(n), reversed(numbers(n)), shuffled(n, next)} {
			result = append(result, sample{s.order.renamed(names), s.width, s.height})
		}
	}
	return result
}

// others are orders of which nothing is known, of n numbers.
func others(n int, next func(n int) int) []table {
	a, b := shuffled(n, next), shuffled(n, next)
	lower := newTruths(n, func(i int) bool { return next(2) == 0 })
	return []table{
		newTable(n, func(i, j int) bool { return a[i] < a[j] && next(n) < 2 }).reached(),
		newTable(n, func(i, j int) bool { return a[i] < a[j] && next(n) == 0 }).reached(),
		newTable(n, func(i, j int) bool { return lower[i] && !lower[j] && next(n) < 3 }),
		newTable(n, func(i, j int) bool { return lower[i] && !lower[j] && next(n) < 8 }),
		newTable(n, func(i, j int) bool { return a[i] < a[j] && b[i] < b[j] && a[i]%7 == a[j]%7 }),
		newTable(n, func(i, j int) bool { return a[i]+n/3 < a[j] && b[i]+n/3 < b[j] }),
		newTable(n, func(i, j int) bool { return a[j] > 0 && a[i] == next(a[j]) }).reached(),
	}
}

// greater are orders of which nothing is known, with at most MaxEdges pairs.
func greater() []table {
	next := random(1)
	var l []table
	for _, n := range []int{10, 20, 30, 40, 63, 64, 65, 100, 127, 128, 129, 200, 300, 500, 511, 512} {
		for range 2 {
			for _, t := range others(n, next) {
				if len(t.pairs()) <= api.MaxEdges {
					l = append(l, t)
				}
			}
		}
	}
	return l
}

// middle are orders of a size for which all sets can be tried.
func middle() []table {
	next := random(2)
	var l []table
	for n := range 4 {
		for range 8 {
			l = append(l, others(n+6, next)...)
		}
	}
	return l
}

// malformed are relations that are not well-formed.
func malformed() []api.Relation {
	set := func(n int, words ...uint64) api.Set { return api.Set{N: n, W: words} }
	rows := func(l ...api.Set) api.Relation { return api.Relation{Rows: l} }
	equal := func(count int, s api.Set) api.Relation { return api.Relation{Rows: slices.Repeat([]api.Set{s}, count)} }
	return []api.Relation{
		rows(set(0)),
		rows(set(-1)),
		rows(set(2, 0)),
		rows(set(1)),
		rows(set(1, 2)),
		rows(set(1, 0, 0)),
		rows(set(64, 0)),
		rows(set(1<<32, 1)),
		rows(set(math.MinInt)),
		rows(set(math.MaxInt, 1)),
		rows(set(2, 0), set(1, 0)),
		rows(set(1, 0), set(2, 0)),
		rows(set(2, 2), set(3, 0)),
		rows(set(2, 2), set(0)),
		rows(set(2, 2), set(2)),
		rows(set(2, 2), set(2, 4)),
		rows(set(2, 4), set(2, 0)),
		rows(set(2, 0), set(2, 1<<63)),
		rows(set(2, 0), set(2, 0, 0)),
		equal(64, set(64)),
		equal(65, set(65, 0)),
		equal(65, set(65, 0, 2)),
		equal(65, set(64, 0)),
		// Also with more bits than there may be pairs.
		equal(64, set(64, math.MaxUint64, 1)),
		equal(65, set(65, math.MaxUint64, math.MaxUint64)),
		equal(511, set(512, make([]uint64, 8)...)),
		equal(512, set(511, make([]uint64, 8)...)),
		equal(512, set(512, make([]uint64, 9)...)),
		equal(513, set(512, make([]uint64, 8)...)),
		equal(513, set(513, make([]uint64, 9)...)),
		equal(513, set(0)),
		chain(513).relation(),
		equal(1000, set(1000, make([]uint64, 16)...)),
		equal(100000, set(100000)),
	}
}

// disorders are relations that are well-formed, but no orders; some have more than MaxEdges pairs.
func disorders() []table {
	last := api.MaxSet - 1
	l := []table{
		// A step from a number to itself, in a transitive relation.
		tableOf(1, [2]int{0, 0}),
		tableOf(3, [2]int{2, 2}),
		tableOf(2, [2]int{0, 0}, [2]int{0, 1}),
		newTable(64, func(i, j int) bool { return i <= j }),
		newTable(65, func(i, j int) bool { return true }),
		newTable(65, func(i, j int) bool { return i == 64 && j == 64 }),
		chain(api.MaxSet).with(last, last, true),
		// Irreflexive relations that are not transitive.
		tableOf(2, [2]int{0, 1}, [2]int{1, 0}),
		tableOf(3, [2]int{0, 1}, [2]int{1, 2}),
		tableOf(3, [2]int{2, 1}, [2]int{1, 0}),
		tableOf(4, [2]int{0, 1}, [2]int{1, 2}, [2]int{0, 2}, [2]int{2, 3}, [2]int{1, 3}),
		newTable(63, func(i, j int) bool { return i != j }),
		newTable(api.MaxSet, func(i, j int) bool { return j == i+1 }),
		newTable(api.MaxSet, func(i, j int) bool { return j == (i+1)%api.MaxSet }),
		tableOf(api.MaxSet, [2]int{last, 64}, [2]int{64, 0}),
		chain(64).with(0, 63, false),
		chain(65).with(63, 0, true),
		chain(api.MaxSet).with(0, last, false),
		chain(api.MaxSet).with(last, 0, true),
	}
	for _, t := range slices.Concat(all(2), all(3)) {
		if !t.isOrder() {
			l = append(l, t)
		}
	}
	return l
}

// notPosets are all the relations that are no posets, for one reason or the other.
func notPosets() []api.Relation {
	l := malformed()
	for _, t := range disorders() {
		l = append(l, t.relation())
	}
	return l
}

// notSets are sets that are none of n numbers, but have the bits of s, or as many.
func notSets(s truths) []api.Set {
	n := len(s)
	good := setOf(s)
	words := func(count int) []uint64 { return append(slices.Clone(good.W), make([]uint64, 9)...)[:count] }
	used := len(good.W)
	l := []api.Set{
		{N: n - 1, W: words(used)},
		{N: n + 1, W: words(used)},
		{N: n + 1, W: words((n + 64) / 64)},
		{N: n + 64, W: words(used + 1)},
		{N: -n - 1, W: words(used)},
		{N: n, W: words(used + 1)},
		{N: math.MinInt, W: words(used)},
		{N: math.MaxInt, W: words(used)},
		{N: 513, W: words(9)},
	}
	if n == 0 {
		return l
	}
	l = append(l, api.Set{}, api.Set{N: n}, api.Set{N: n, W: words(used - 1)}, api.Set{N: 0, W: words(used)})
	if n%64 > 0 {
		// One bit beyond the numbers, also in the place of the first member.
		beyond := words(used)
		beyond[used-1] |= 1 << (n % 64)
		instead := words(used)
		instead[used-1] |= 1 << 63
		for k, word := range good.W {
			if word != 0 {
				instead[k] &= instead[k] - 1
				break
			}
		}
		l = append(l, api.Set{N: n, W: beyond}, api.Set{N: n, W: instead})
	}
	return l
}

// show is short for relations with many rows.
func show(r api.Relation) string {
	if len(r.Rows) > 9 {
		return fmt.Sprintf("%v.. (%d rows)", r.Rows[:2], len(r.Rows))
	}
	return fmt.Sprint(r.Rows)
}

// singles are the chains of one number each.
func singles(n int) [][]int {
	var l [][]int
	for i := range n {
		l = append(l, []int{i})
	}
	return l
}

func whole(n int) truths {
	return newTruths(n, func(i int) bool { return true })
}

// checkNothing checks that the four functions with an error return this one, and nothing else.
func checkNothing(t *testing.T, p api.Relation, want api.Errno) {
	t.Helper()
	if got, err := width.Chains(p); len(got) != 0 || err != want {
		t.Errorf("Chains of %s = %v, %d, want the error %d", show(p), got, err, want)
	}
	if got, err := width.Antichain(p); got.N != 0 || len(got.W) != 0 || err != want {
		t.Errorf("Antichain of %s = %v, %d, want the error %d", show(p), got, err, want)
	}
	if got, err := width.Width(p); got != 0 || err != want {
		t.Errorf("Width of %s = %d, %d, want the error %d", show(p), got, err, want)
	}
	if got, err := width.Height(p); got != 0 || err != want {
		t.Errorf("Height of %s = %d, %d, want the error %d", show(p), got, err, want)
	}
}

// The tests themselves

func TestNumbersOfOrders(t *testing.T) {
	for n, want := range []int{1, 1, 3, 19, 219, 4231} {
		if got := len(orders(n)); got != want {
			t.Errorf("the tests know %d orders of %d numbers, not %d", got, n, want)
		}
	}
}

func TestNumbersOfPairs(t *testing.T) {
	for _, s := range known() {
		if got := len(s.order.pairs()); got > api.MaxEdges {
			t.Errorf("%v has %d pairs", s.order, got)
		}
	}
	for _, s := range full() {
		if got := len(s.order.pairs()); got != api.MaxEdges {
			t.Errorf("%v has %d pairs", s.order, got)
		}
	}
	for k, s := range tooMany() {
		if got := len(s.order.pairs()); got <= api.MaxEdges || k < 5 && got != api.MaxEdges+1 {
			t.Errorf("%v has %d pairs", s.order, got)
		}
	}
}

// P7.1

// lists are all lists of at most length of the numbers from -1 to n.
func lists(n, length int) [][]int {
	l := [][]int{nil}
	for first := 0; length > 0; length-- {
		last := len(l)
		for _, shorter := range l[first:last] {
			for i := -1; i <= n; i++ {
				l = append(l, append(slices.Clone(shorter), i))
			}
		}
		first = last
	}
	return l
}

func checkIsChain(t *testing.T, order table, p api.Relation, l []int, want bool) {
	t.Helper()
	if width.IsChain(p, l) != want {
		t.Errorf("IsChain(%v, %v) is not %t", order, l, want)
	}
}

func TestIsChain(t *testing.T) {
	for n := range 4 {
		for _, relation := range all(n) {
			p, isOrder := relation.relation(), relation.isOrder()
			for _, l := range lists(n, n+1) {
				checkIsChain(t, relation, p, l, isOrder && relation.isChain(l))
			}
		}
	}
	for _, order := range orders(4) {
		p := order.relation()
		for _, l := range lists(4, 4) {
			checkIsChain(t, order, p, l, order.isChain(l))
		}
	}
}

func TestIsChainExamples(t *testing.T) {
	order := tableOf(4, [2]int{0, 1}, [2]int{0, 2}, [2]int{1, 3}, [2]int{2, 3}, [2]int{0, 3})
	for _, c := range []struct {
		l    []int
		want bool
	}{
		{nil, true},
		{[]int{}, true},
		{[]int{2}, true},
		{[]int{0, 1, 3}, true},
		{[]int{0, 2, 3}, true},
		{[]int{0, 3}, true},
		{[]int{1, 2}, false},
		{[]int{3, 1}, false},
		{[]int{1, 0}, false},
		{[]int{0, 3, 1}, false},
		{[]int{0, 1, 2, 3}, false},
		{[]int{1, 1}, false},
		{[]int{0, 0, 1}, false},
		{[]int{0, 1, 3, 3}, false},
		{[]int{0, 1, 3, 0}, false},
		{[]int{-1}, false},
		{[]int{4}, false},
		{[]int{-1, 0, 1}, false},
		{[]int{0, 1, 4}, false},
		{[]int{0, 1, -1}, false},
	} {
		checkIsChain(t, order, order.relation(), c.l, c.want)
	}
}

func TestIsChainOfOneNumber(t *testing.T) {
	for _, n := range []int{0, 1, 2, 63, 64, 65, 127, 128, 511, 512} {
		for _, order := range []table{noPairs(n), chain(n)} {
			p := order.relation()
			for i := -2; i < n+66; i += 1 + n/60 {
				checkIsChain(t, order, p, []int{i}, 0 <= i && i < n)
			}
			checkIsChain(t, order, p, []int{n - 1}, n > 0)
			checkIsChain(t, order, p, []int{n}, false)
			for _, i := range []int{math.MinInt, math.MinInt + n, -64, -512, n + 448, 1 << 32, math.MaxInt - 63, math.MaxInt} {
				checkIsChain(t, order, p, []int{i}, false)
				checkIsChain(t, order, p, []int{i, 0}, false)
				checkIsChain(t, order, p, []int{0, i}, false)
				checkIsChain(t, order, p, []int{i, i}, false)
			}
		}
	}
}

// Long chains: as they are, with a step left out, or with something wrong at one place. There is no
// limit for the number of pairs.
func TestIsChainOfManyNumbers(t *testing.T) {
	next := random(3)
	for _, n := range []int{2, 3, 62, 63, 64, 65, 128, 512} {
		names := shuffled(n, next)
		order := chain(n).renamed(names)
		p := order.relation()
		l := make([]int, n)
		for i, name := range names {
			l[name] = i
		}
		checkIsChain(t, order, p, l, true)
		checkIsChain(t, order, p, reversed(l), false)
		checkIsChain(t, order, p, append(slices.Clone(l), l[n-1]), false)
		checkIsChain(t, order, p, append(slices.Clone(l), l[0]), false)
		checkIsChain(t, order, p, append(slices.Clone(l), n), false)
		checkIsChain(t, order, p, append(slices.Clone(l), -1), false)
		checkIsChain(t, order, p, slices.Concat(l, l, l), false)
		for k := 0; k < n; k += 1 + n/50 {
			checkIsChain(t, order, p, slices.Delete(slices.Clone(l), k, k+1), true)
			checkIsChain(t, order, p, slices.Insert(slices.Clone(l), k, l[k]), false)
			checkIsChain(t, order, p, slices.Replace(slices.Clone(l), k, k+1, n), false)
			if k > 0 {
				checkIsChain(t, order, p, slices.Replace(slices.Clone(l), k-1, k+1, l[k], l[k-1]), false)
			}
		}
	}
}

func TestIsChainOfKnownOrders(t *testing.T) {
	next := random(4)
	for _, s := range named(slices.Concat(known(), tooMany()), 5) {
		n := len(s.order)
		if n == 0 {
			continue
		}
		p := s.order.relation()
		for range 20 {
			l := []int{next(n), next(n)}
			checkIsChain(t, s.order, p, l, s.order.isChain(l))
			l = append(l, next(n), next(n))
			checkIsChain(t, s.order, p, l, s.order.isChain(l))
		}
	}
}

func TestIsChainOfNoPoset(t *testing.T) {
	for _, p := range notPosets() {
		n := len(p.Rows)
		for _, l := range [][]int{nil, {}, {0}, {n - 1}, {0, 1}, {1, 0}, {0, n - 1}, {0, 1, 2}, {n}, {-1}, numbers(n)} {
			if width.IsChain(p, l) {
				t.Errorf("IsChain(%s, %v)", show(p), l)
			}
		}
	}
}

func checkIsAntichain(t *testing.T, order table, p api.Relation, s truths, want bool) {
	t.Helper()
	if width.IsAntichain(p, setOf(s)) != want {
		t.Errorf("IsAntichain(%v, %v) is not %t", order, s.members(), want)
	}
}

func TestIsAntichain(t *testing.T) {
	for n := range 4 {
		for _, relation := range all(n) {
			p, isOrder := relation.relation(), relation.isOrder()
			for _, s := range subsets(n) {
				checkIsAntichain(t, relation, p, s, isOrder && relation.isAntichain(s))
			}
		}
	}
	for _, order := range slices.Concat(orders(4), orders(5)) {
		p := order.relation()
		for _, s := range subsets(len(order)) {
			checkIsAntichain(t, order, p, s, order.isAntichain(s))
		}
	}
}

func TestIsAntichainExamples(t *testing.T) {
	order := tableOf(4, [2]int{0, 1}, [2]int{0, 2}, [2]int{1, 3}, [2]int{2, 3}, [2]int{0, 3})
	for _, c := range []struct {
		s    []int
		want bool
	}{
		{nil, true},
		{[]int{0}, true},
		{[]int{3}, true},
		{[]int{1, 2}, true},
		{[]int{0, 1}, false},
		{[]int{0, 3}, false},
		{[]int{2, 3}, false},
		{[]int{0, 1, 2}, false},
		{[]int{0, 1, 2, 3}, false},
	} {
		checkIsAntichain(t, order, order.relation(), truthsOf(4, c.s...), c.want)
	}
}

// Any two numbers, and an antichain with one number more. There is no limit for the number of pairs.
func TestIsAntichainOfKnownOrders(t *testing.T) {
	next := random(6)
	for _, s := range named(slices.Concat(known(), tooMany()), 7) {
		n := len(s.order)
		p := s.order.relation()
		checkIsAntichain(t, s.order, p, make(truths, n), true)
		checkIsAntichain(t, s.order, p, whole(n), len(s.order.pairs()) == 0)
		minimal := newTruths(n, func(i int) bool {
			return !slices.ContainsFunc(s.order, func(row []bool) bool { return row[i] })
		})
		checkIsAntichain(t, s.order, p, minimal, true)
		for range min(n, 20) {
			i, j := next(n), next(n)
			checkIsAntichain(t, s.order, p, truthsOf(n, i, j), !s.order[i][j] && !s.order[j][i])
			more := slices.Clone(minimal)
			more[i] = true
			checkIsAntichain(t, s.order, p, more, minimal[i])
		}
	}
}

func TestIsAntichainOfOtherSets(t *testing.T) {
	for _, n := range []int{0, 1, 2, 3, 63, 64, 65, 127, 128, 511, 512} {
		for _, order := range []table{noPairs(n), chain(n)} {
			p := order.relation()
			for _, good := range []truths{make(truths, n), whole(n), newTruths(n, func(i int) bool { return i == 0 }), newTruths(n, func(i int) bool { return i == n-1 })} {
				for _, s := range notSets(good) {
					if width.IsAntichain(p, s) {
						t.Errorf("IsAntichain(%v, %v)", order, s)
					}
				}
			}
		}
	}
}

func TestIsAntichainOfNoPoset(t *testing.T) {
	for _, p := range notPosets() {
		n := len(p.Rows)
		sets := []api.Set{{}, setOf(make(truths, n)), setOf(whole(n)), setOf(truthsOf(n, 0)), setOf(truthsOf(n, n-1))}
		if n > 0 {
			sets = append(sets, p.Rows[0], p.Rows[n-1])
		}
		for _, s := range sets {
			if width.IsAntichain(p, s) {
				t.Errorf("IsAntichain(%s, %v)", show(p), s)
			}
		}
	}
}

// P7.2

func checkChains(t *testing.T, order table, want int) {
	t.Helper()
	got, err := width.Chains(order.relation())
	if err != api.OK || !order.isPartition(got) || len(got) != want {
		t.Errorf("Chains of %v = %v, %d, want %d chains", order, got, err, want)
	}
}

func checkAntichain(t *testing.T, order table, want int) {
	t.Helper()
	got, err := width.Antichain(order.relation())
	s, isSet := read(len(order), got)
	if err != api.OK || !isSet || !order.isAntichain(s) || s.count() != want {
		t.Errorf("Antichain of %v = %v, %d, want %d members", order, got, err, want)
	}
}

func TestChainsAndAntichain(t *testing.T) {
	for _, order := range slices.Concat(small(), orders(5), middle()) {
		want := order.width()
		checkChains(t, order, want)
		checkAntichain(t, order, want)
	}
	for _, s := range named(known(), 8) {
		checkChains(t, s.order, s.width)
		checkAntichain(t, s.order, s.width)
	}
}

// A chain partition and an antichain of the same size show that both are as asked for.
func TestChainsAndAntichainOfGreaterOrders(t *testing.T) {
	for _, order := range greater() {
		chains, err := width.Chains(order.relation())
		if err != api.OK {
			t.Errorf("Chains of %v = %v, %d", order, chains, err)
		}
		checkChains(t, order, len(chains))
		checkAntichain(t, order, len(chains))
	}
}

func TestChainsAndAntichainExample(t *testing.T) {
	order := tableOf(4, [2]int{0, 1}, [2]int{0, 2}, [2]int{1, 3}, [2]int{2, 3}, [2]int{0, 3})
	checkChains(t, order, 2)
	checkAntichain(t, order, 2)
	// It is the only antichain with two members.
	if got, _ := width.Antichain(order.relation()); !slices.Equal(got.W, []uint64{6}) {
		t.Errorf("Antichain = %v", got)
	}
}

func TestNoNumbers(t *testing.T) {
	for _, p := range []api.Relation{{}, {Rows: []api.Set{}}} {
		checkNothing(t, p, api.OK)
		if !width.IsChain(p, nil) || !width.IsAntichain(p, api.Set{}) || !width.Check(p, api.Set{}, nil) {
			t.Error("no number is a chain, an antichain, and a chain partition without chains")
		}
	}
}

func TestErrors(t *testing.T) {
	for _, p := range notPosets() {
		checkNothing(t, p, api.ErrArg)
	}
	for _, s := range named(tooMany(), 9) {
		checkNothing(t, s.order.relation(), api.ErrBig)
	}
}

// Both errors apply: the first one is returned.
func TestOrderOfErrors(t *testing.T) {
	for _, s := range named(tooMany(), 10) {
		n := len(s.order)
		good := s.order.relation()
		for _, change := range []func(p *api.Relation){
			func(p *api.Relation) { p.Rows[n-1].W[(n-1)/64] ^= 1 << ((n - 1) % 64) },
			func(p *api.Relation) { p.Rows[0].W[0] ^= 1 },
			func(p *api.Relation) { p.Rows[n/2].N++ },
			func(p *api.Relation) { p.Rows[n-1].W = append(p.Rows[n-1].W, 0) },
			func(p *api.Relation) { p.Rows = p.Rows[1:] },
			func(p *api.Relation) { p.Rows = append(p.Rows, api.Set{}) },
		} {
			p := clone(good)
			change(&p)
			checkNothing(t, p, api.ErrArg)
		}
	}
}

// All functions for each number of numbers, up to the limit.
func TestSizes(t *testing.T) {
	for n := range api.MaxSet + 70 {
		row := api.Set{N: n, W: make([]uint64, (n+63)/64)}
		p := api.Relation{Rows: slices.Repeat([]api.Set{row}, n)}
		s := setOf(whole(n))
		isPoset := n <= api.MaxSet
		if width.IsChain(p, nil) != isPoset || width.IsAntichain(p, s) != isPoset || width.Check(p, s, singles(n)) != isPoset {
			t.Errorf("%d numbers without pairs", n)
		}
		if !isPoset {
			checkNothing(t, p, api.ErrArg)
			continue
		}
		if got, err := width.Width(p); got != n || err != api.OK {
			t.Errorf("Width of %d numbers = %d, %d", n, got, err)
		}
		if got, err := width.Height(p); got != min(n, 1) || err != api.OK {
			t.Errorf("Height of %d numbers = %d, %d", n, got, err)
		}
	}
	for _, n := range []int{0, 1, 2, 3, 63, 64, 65, 127, 128, 129, 511, 512} {
		checkChains(t, noPairs(n), n)
		checkAntichain(t, noPairs(n), n)
	}
}

// P7.3

func checkWidthAndHeight(t *testing.T, order table, wantWidth, wantHeight int) {
	t.Helper()
	p := order.relation()
	if got, err := width.Width(p); got != wantWidth || err != api.OK {
		t.Errorf("Width of %v = %d, %d, want %d", order, got, err, wantWidth)
	}
	if got, err := width.Height(p); got != wantHeight || err != api.OK {
		t.Errorf("Height of %v = %d, %d, want %d", order, got, err, wantHeight)
	}
}

func TestWidthAndHeight(t *testing.T) {
	for _, order := range slices.Concat(small(), orders(5), middle()) {
		checkWidthAndHeight(t, order, order.width(), order.height())
	}
	for _, s := range named(known(), 11) {
		checkWidthAndHeight(t, s.order, s.width, s.height)
		if got := s.order.height(); got != s.height {
			t.Errorf("the tests know the height %d of %v, not %d", s.height, s.order, got)
		}
	}
	for _, order := range greater() {
		chains, _ := width.Chains(order.relation())
		checkWidthAndHeight(t, order, len(chains), order.height())
	}
	checkWidthAndHeight(t, tableOf(4, [2]int{0, 1}, [2]int{0, 2}, [2]int{1, 3}, [2]int{2, 3}, [2]int{0, 3}), 2, 3)
}

// The height is the length of a chain, and there is none with one number more.
func TestHeightByChains(t *testing.T) {
	for _, order := range small() {
		p := order.relation()
		greatest := 0
		for _, l := range lists(len(order), len(order)) {
			if order.isChain(l) {
				greatest = max(greatest, len(l))
			}
		}
		if got, err := width.Height(p); got != greatest || err != api.OK {
			t.Errorf("Height of %v = %d, %d, want %d", order, got, err, greatest)
		}
	}
}

// P7.4

// arrangements are all ways to put n numbers into lists, without an order of the lists.
func arrangements(n int) [][][]int {
	if n == 0 {
		return [][][]int{nil}
	}
	var l [][][]int
	for _, fewer := range arrangements(n - 1) {
		for k, list := range fewer {
			for at := range len(list) + 1 {
				more := slices.Clone(fewer)
				more[k] = slices.Insert(slices.Clone(list), at, n-1)
				l = append(l, more)
			}
		}
		l = append(l, append(slices.Clone(fewer), []int{n - 1}))
	}
	return l
}

// variants are lists with something wrong: a list without numbers, or twice, or left out, or in two
// parts, two lists in one, a number besides, left out, or in the place of another one.
func variants(n int, lists [][]int) [][][]int {
	replaced := func(k int, by ...[]int) [][]int { return slices.Replace(slices.Clone(lists), k, k+1, by...) }
	var l [][][]int
	for k := range len(lists) + 1 {
		l = append(l, slices.Insert(slices.Clone(lists), k, []int{}), slices.Insert(slices.Clone(lists), k, nil))
		for i := -1; i <= n; i++ {
			l = append(l, slices.Insert(slices.Clone(lists), k, []int{i}))
		}
	}
	for k, list := range lists {
		l = append(l, replaced(k), replaced(k, nil), replaced(k, list, list))
		for at := range len(list) + 1 {
			for i := -1; i <= n; i++ {
				l = append(l, replaced(k, slices.Insert(slices.Clone(list), at, i)))
				if at < len(list) {
					l = append(l, replaced(k, slices.Replace(slices.Clone(list), at, at+1, i)))
				}
			}
			l = append(l, replaced(k, list[:at], list[at:]))
			if at < len(list) {
				l = append(l, replaced(k, slices.Delete(slices.Clone(list), at, at+1)))
			}
		}
		for other := range k {
			l = append(l, slices.Delete(replaced(k, slices.Concat(lists[other], list)), other, other+1))
		}
	}
	return l
}

func checkCheck(t *testing.T, order table, p api.Relation, s truths, chains [][]int) {
	t.Helper()
	want := order.isAntichain(s) && order.isPartition(chains) && s.count() == len(chains)
	if width.Check(p, setOf(s), chains) != want {
		t.Errorf("Check(%v, %v, %v) is not %t", order, s.members(), chains, want)
	}
}

func TestCheck(t *testing.T) {
	for _, order := range small() {
		p := order.relation()
		for _, chains := range arrangements(len(order)) {
			for _, s := range subsets(len(order)) {
				checkCheck(t, order, p, s, chains)
			}
			slices.Reverse(chains)
			checkCheck(t, order, p, order.greatestAntichain(), chains)
		}
	}
}

func TestCheckOfVariants(t *testing.T) {
	for n := range 5 {
		var tried [][][]int
		for _, good := range arrangements(n) {
			tried = append(tried, variants(n, good)...)
		}
		for _, order := range orders(n) {
			p := order.relation()
			sets := []truths{order.greatestAntichain()}
			if n < 4 {
				sets = subsets(n)
			}
			for _, chains := range tried {
				for _, s := range sets {
					checkCheck(t, order, p, s, chains)
				}
			}
		}
	}
}

func TestCheckExamples(t *testing.T) {
	order := tableOf(4, [2]int{0, 1}, [2]int{0, 2}, [2]int{1, 3}, [2]int{2, 3}, [2]int{0, 3})
	for _, c := range []struct {
		s      []int
		chains [][]int
		want   bool
	}{
		{[]int{1, 2}, [][]int{{0, 1, 3}, {2}}, true},
		{[]int{1, 2}, [][]int{{2}, {0, 1, 3}}, true},
		{[]int{1, 2}, [][]int{{0, 2, 3}, {1}}, true},
		{[]int{1, 2}, [][]int{{0, 1}, {2, 3}}, true},
		{[]int{1, 2}, [][]int{{0, 1, 3}, {2}, {}}, false},
		{[]int{1, 2}, [][]int{{0, 1, 3}, {2}, nil}, false},
		{[]int{1, 2}, [][]int{{}, {}}, false},
		{[]int{1, 2}, [][]int{{0, 1, 3}, {}}, false},
		{[]int{1, 2}, [][]int{{0, 1, 3}, {0, 2}}, false},
		{[]int{1, 2}, [][]int{{0, 1, 3}, {0, 2, 3}}, false},
		{[]int{1, 2}, [][]int{{0, 1}, {2}}, false},
		{[]int{1, 2}, [][]int{{1, 3}, {0, 1}}, false},
		{[]int{1, 2}, [][]int{{0, 3, 1}, {2}}, false},
		{[]int{1, 2}, [][]int{{3, 1, 0}, {2}}, false},
		{[]int{1, 2}, [][]int{{0, 1, 1, 3}, {2}}, false},
		{[]int{1, 2}, [][]int{{0, 1, 3}, {4}}, false},
		{[]int{1, 2}, [][]int{{0, 1, 3}, {-1}}, false},
		{[]int{1, 2}, [][]int{{0, 1, 3}, {2, 4}}, false},
		{[]int{1, 2}, [][]int{{0, 1, 3}}, false},
		{[]int{1, 2}, [][]int{{0}, {1, 3}, {2}}, false},
		{[]int{1, 2}, [][]int{{0, 1, 2, 3}}, false},
		{[]int{1, 2}, nil, false},
		{[]int{1}, [][]int{{0, 1, 3}}, false},
		{[]int{1}, [][]int{{0, 1, 3}, {2}}, false},
		{nil, nil, false},
		{nil, [][]int{{}}, false},
		{nil, [][]int{{0, 1, 3}, {2}}, false},
		{[]int{0, 1}, [][]int{{0, 1, 3}, {2}}, false},
		{[]int{0, 3}, [][]int{{0, 1, 3}, {2}}, false},
		{[]int{0, 1, 2}, [][]int{{0}, {1, 3}, {2}}, false},
		{[]int{0, 1, 2, 3}, [][]int{{0}, {1}, {2}, {3}}, false},
	} {
		if got := width.Check(order.relation(), setOf(truthsOf(4, c.s...)), c.chains); got != c.want {
			t.Errorf("Check(%v, %v) = %t", c.s, c.chains, got)
		}
	}
	if p := noPairs(0).relation(); width.Check(p, api.Set{}, [][]int{{}}) || width.Check(p, api.Set{}, [][]int{nil, nil}) || width.Check(p, api.Set{}, [][]int{{0}}) {
		t.Error("there are no chains of no numbers")
	}
	if p := chain(1).relation(); !width.Check(p, setOf(whole(1)), [][]int{{0}}) || width.Check(p, setOf(whole(1)), [][]int{{0, 0}}) || width.Check(p, setOf(make(truths, 1)), nil) {
		t.Error("one number is one chain")
	}
}

// There is no limit for the number of pairs.
func TestCheckOfManyPairs(t *testing.T) {
	for _, n := range []int{63, 64, 65, 512} {
		p := chain(n).relation()
		for _, member := range []int{0, 1, n / 2, n - 1} {
			s := setOf(truthsOf(n, member))
			if !width.Check(p, s, [][]int{numbers(n)}) {
				t.Errorf("Check of a chain of %d numbers", n)
			}
			for k, chains := range [][][]int{nil, {{}}, {reversed(numbers(n))}, {numbers(n)[1:]}, {numbers(n)[:n-1]}, {numbers(n + 1)}, {numbers(1), numbers(n)[1:]}, singles(n)} {
				if width.Check(p, s, chains) {
					t.Errorf("%d: Check of a chain of %d numbers", k, n)
				}
			}
		}
	}
	// Each lower number goes with the upper one that has the same place.
	order := layers(256, 256)
	var chains [][]int
	for i := range 256 {
		chains = append(chains, []int{i, 256 + i})
	}
	p := order.relation()
	for _, start := range []int{0, 256} {
		s := newTruths(512, func(i int) bool { return start <= i && i < start+256 })
		checkCheck(t, order, p, s, chains)
		if !width.Check(p, setOf(s), chains) {
			t.Error("Check of two layers")
		}
		s[start], s[start^256] = false, true
		checkCheck(t, order, p, s, chains)
	}
}

func TestCheckOfOtherSets(t *testing.T) {
	for _, n := range []int{0, 1, 2, 3, 63, 64, 65, 127, 128, 511, 512} {
		p := noPairs(n).relation()
		if !width.Check(p, setOf(whole(n)), singles(n)) {
			t.Errorf("Check of %d numbers", n)
		}
		for _, s := range notSets(whole(n)) {
			if width.Check(p, s, singles(n)) {
				t.Errorf("Check of %d numbers and %v", n, s)
			}
		}
		p = chain(n).relation()
		for _, s := range notSets(newTruths(n, func(i int) bool { return i == 0 })) {
			if width.Check(p, s, [][]int{numbers(n)}) {
				t.Errorf("Check of a chain of %d numbers and %v", n, s)
			}
		}
	}
}

func TestCheckOfNoPoset(t *testing.T) {
	for _, p := range notPosets() {
		n := len(p.Rows)
		for _, s := range []truths{nil, make(truths, n), whole(n), truthsOf(n, 0), truthsOf(n, n-1), truthsOf(n, 0, n-1)} {
			for _, chains := range [][][]int{nil, {nil}, {{0}}, {numbers(n)}, {reversed(numbers(n))}, {{0, 1}, {2}}, {{0}, {1, 2}}, singles(n)} {
				if width.Check(p, setOf(s), chains) {
					t.Errorf("Check(%s, %v, %v)", show(p), s.members(), chains)
				}
			}
		}
	}
}

// P7.5

// results are those of a poset, without errors.
func results(t *testing.T, p api.Relation) (chains [][]int, s api.Set, w, h int) {
	t.Helper()
	chains, err := width.Chains(p)
	s, errS := width.Antichain(p)
	w, errW := width.Width(p)
	h, errH := width.Height(p)
	if err != api.OK || errS != api.OK || errW != api.OK || errH != api.OK {
		t.Fatalf("%s has the errors %d, %d, %d, %d", show(p), err, errS, errW, errH)
	}
	return chains, s, w, h
}

func samples() []table {
	l := slices.Concat(small(), middle(), greater())
	for _, s := range named(known(), 12) {
		l = append(l, s.order)
	}
	return l
}

// Antichain and chain partition certify each other, unless one of them is changed.
func TestCertificates(t *testing.T) {
	next := random(13)
	for _, order := range slices.Concat(samples(), orders(5)) {
		n := len(order)
		p := order.relation()
		chains, set, w, h := results(t, p)
		if !width.Check(p, set, chains) || len(chains) != w {
			t.Errorf("%v: %v and %v do not certify each other, or the width %d", order, set, chains, w)
		}
		if w*h < n {
			t.Errorf("%v has the width %d, and the height %d", order, w, h)
		}
		for _, chain := range chains {
			if !width.IsChain(p, chain) || len(chain) > h {
				t.Errorf("%v has the height %d, and the chain %v", order, h, chain)
			}
		}
		s, isSet := read(n, set)
		if n == 0 || !isSet || !width.IsAntichain(p, set) {
			continue
		}
		checkCheck(t, order, p, s, reversedLists(chains))
		changed := slices.Clone(s)
		i := next(n)
		changed[i] = !changed[i]
		checkCheck(t, order, p, changed, chains)
		k := next(len(chains))
		checkCheck(t, order, p, s, slices.Delete(slices.Clone(chains), k, k+1))
		checkCheck(t, order, p, s, slices.Replace(slices.Clone(chains), k, k+1, reversed(chains[k])))
		checkCheck(t, order, p, s, slices.Replace(slices.Clone(chains), k, k+1, chains[k][1:]))
		checkCheck(t, order, p, s, slices.Replace(slices.Clone(chains), k, k+1, chains[k][:1], chains[k][1:]))
		checkCheck(t, order, p, s, slices.Replace(slices.Clone(chains), k, k+1, chains[next(len(chains))]))
	}
}

func reversedLists(l [][]int) [][]int {
	l = slices.Clone(l)
	slices.Reverse(l)
	return l
}

// No antichain is greater than a chain partition; those of the same size are the width.
func TestNoAntichainIsGreater(t *testing.T) {
	for _, order := range small() {
		p := order.relation()
		w, err := width.Width(p)
		if err != api.OK {
			t.Errorf("Width of %v has the error %d", order, err)
		}
		for _, s := range subsets(len(order)) {
			if width.IsAntichain(p, setOf(s)) && s.count() > w {
				t.Errorf("%v has the width %d, but the antichain %v", order, w, s.members())
			}
		}
		for _, chains := range arrangements(len(order)) {
			isPartition := !slices.ContainsFunc(chains, func(l []int) bool { return !width.IsChain(p, l) })
			if isPartition && len(chains) < w {
				t.Errorf("%v has the width %d, but the chains %v", order, w, chains)
			}
		}
	}
}

// The width and the height of a part are at most those of the whole.
func TestParts(t *testing.T) {
	checkPart := func(order table, w, h int, part truths) {
		t.Helper()
		_, _, partW, partH := results(t, order.renamed(part.members()).relation())
		if partW > w || partH > h {
			t.Errorf("%v has the width %d and the height %d, the part %v %d and %d", order, w, h, part.members(), partW, partH)
		}
	}
	for _, order := range small() {
		_, _, w, h := results(t, order.relation())
		for _, part := range subsets(len(order)) {
			checkPart(order, w, h, part)
		}
	}
	next := random(14)
	for _, order := range slices.Concat(middle(), greater()) {
		_, _, w, h := results(t, order.relation())
		for _, share := range []int{2, 3, len(order)} {
			checkPart(order, w, h, newTruths(len(order), func(i int) bool { return next(share) > 0 }))
		}
	}
}

// The antichain has a member in each chain of a partition that it certifies.
func TestMembersInChains(t *testing.T) {
	for _, order := range samples() {
		chains, set, _, _ := results(t, order.relation())
		s, isSet := read(len(order), set)
		if !isSet {
			t.Errorf("Antichain of %v = %v", order, set)
			continue
		}
		for _, chain := range chains {
			if !slices.ContainsFunc(chain, func(i int) bool { return s[i] }) {
				t.Errorf("%v: no member of %v is in %v", order, s.members(), chain)
			}
		}
	}
}

// Memory

func clone(r api.Relation) api.Relation {
	rows := slices.Clone(r.Rows)
	for i := range rows {
		rows[i].W = slices.Clone(rows[i].W)
	}
	return api.Relation{Rows: rows}
}

// padded are the same numbers with room behind their end, in which nothing may be written.
func padded[E any](l []E, room ...E) []E {
	return append(append(make([]E, 0, len(l)+len(room)), l...), room...)[:len(l)]
}

func paddedSet(s api.Set) api.Set {
	return api.Set{N: s.N, W: padded(s.W, 77, 78)}
}

func paddedRelation(r api.Relation) api.Relation {
	var rows []api.Set
	for _, row := range r.Rows {
		rows = append(rows, paddedSet(row))
	}
	return api.Relation{Rows: padded(rows, api.Set{N: 79}, api.Set{})}
}

func paddedLists(l [][]int) [][]int {
	var lists [][]int
	for _, list := range l {
		lists = append(lists, padded(list, 80, 81))
	}
	return padded(lists, []int{82})
}

// behind is a text of all that is in a slice, and behind its end.
func behind[E any](l []E) string {
	return fmt.Sprintf("%d %v", len(l), l[:cap(l)])
}

func behindSets(l []api.Set) string {
	text := behind(l)
	for _, s := range l[:cap(l)] {
		text += behind(s.W)
	}
	return text
}

func behindLists(l [][]int) string {
	text := behind(l)
	for _, list := range l[:cap(l)] {
		text += behind(list)
	}
	return text
}

// arguments are a poset, a set, a chain, and a chain partition, or others.
type arguments struct {
	p      api.Relation
	s      api.Set
	chain  []int
	chains [][]int
}

func (a arguments) String() string {
	return behindSets(a.p.Rows) + behindSets([]api.Set{a.s}) + behind(a.chain) + behindLists(a.chains)
}

func allArguments() []arguments {
	var l []arguments
	for _, p := range []api.Relation{
		noPairs(0).relation(),
		noPairs(1).relation(),
		noPairs(3).relation(),
		chain(2).renamed([]int{1, 0}).relation(),
		layers(1, 2, 1).relation(),
		fence(9).relation(),
		chain(63).relation(),
		chain(64).relation(),
		fence(70).relation(),
		beside(layers(30, 30), noPairs(70)).relation(),
		tableOf(3, [2]int{0, 1}, [2]int{1, 2}).relation(),
		tableOf(2, [2]int{0, 1}, [2]int{1, 0}).relation(),
		{Rows: []api.Set{{N: 2, W: []uint64{2}}, {N: 2, W: []uint64{4}}}},
		{Rows: []api.Set{{N: 1, W: []uint64{0, 0}}}},
	} {
		n := len(p.Rows)
		for _, s := range []api.Set{setOf(make(truths, n)), setOf(whole(n)), setOf(newTruths(n, func(i int) bool { return i%2 == 0 })), {N: n, W: make([]uint64, 9)}} {
			for _, chains := range [][][]int{nil, singles(n), reversedLists(singles(n)), {numbers(n)}, {reversed(numbers(n)), {-1, 5, 2}}, {{}, {2, 0, 1}, {3}}} {
				chain := numbers(n)
				if len(chains) > 0 {
					chain = chains[0]
				}
				l = append(l, arguments{paddedRelation(p), paddedSet(s), padded(chain, 83), paddedLists(chains)})
			}
		}
	}
	return l
}

// shared is an order all of whose rows are one slice.
func shared() arguments {
	row := paddedSet(api.Set{N: 70, W: make([]uint64, 2)})
	p := api.Relation{Rows: slices.Repeat([]api.Set{row}, 70)}
	return arguments{p, row, []int{0}, paddedLists(singles(70))}
}

// outcome is a text of all results.
func outcome(a arguments) string {
	chains, err := width.Chains(a.p)
	s, errS := width.Antichain(a.p)
	w, errW := width.Width(a.p)
	h, errH := width.Height(a.p)
	return fmt.Sprint(width.IsChain(a.p, a.chain), width.IsAntichain(a.p, a.s), width.Check(a.p, a.s, a.chains), chains, err, s, errS, w, errW, h, errH)
}

func TestArgumentsStay(t *testing.T) {
	for i, a := range append(allArguments(), shared()) {
		before := a.String()
		first := outcome(a)
		if a.String() != before {
			t.Errorf("%d: an argument was changed: %s, before %s", i, a, before)
		}
		if second := outcome(a); second != first {
			t.Errorf("%d: two results: %s, %s", i, first, second)
		}
		// The certificate itself is an argument that is accepted.
		chains, _ := width.Chains(a.p)
		s, _ := width.Antichain(a.p)
		certificate := arguments{a.p, paddedSet(s), nil, paddedLists(chains)}
		before = certificate.String()
		width.Check(certificate.p, certificate.s, certificate.chains)
		if certificate.String() != before {
			t.Errorf("%d: a certificate was changed: %s, before %s", i, certificate, before)
		}
	}
}

func TestResultsShareNoMemory(t *testing.T) {
	for i, a := range append(allArguments(), shared()) {
		before, first := a.String(), outcome(a)
		chains, _ := width.Chains(a.p)
		s, _ := width.Antichain(a.p)
		for k := range s.W[:cap(s.W)] {
			s.W[:cap(s.W)][k] ^= math.MaxUint64
		}
		for k := range chains {
			others := fmt.Sprint(slices.Delete(slices.Clone(chains), k, k+1))
			list := chains[k][:cap(chains[k])]
			for at := range list {
				list[at] = -7
			}
			if now := fmt.Sprint(slices.Delete(slices.Clone(chains), k, k+1)); now != others {
				t.Errorf("%d: the chains %s were changed to %s", i, others, now)
			}
		}
		for k := range chains[:cap(chains)] {
			chains[:cap(chains)][k] = nil
		}
		if a.String() != before {
			t.Errorf("%d: a result shares memory with an argument: %s, before %s", i, a, before)
		}
		if second := outcome(a); second != first {
			t.Errorf("%d: two results: %s, %s", i, first, second)
		}
	}
}

// The same arguments have the same results, whatever was asked before.
func TestResultsStay(t *testing.T) {
	orders := greater()[:40]
	var first []string
	for _, order := range orders {
		first = append(first, outcome(arguments{p: order.relation()}))
	}
	for range 3 {
		for i, order := range slices.Backward(orders) {
			if got := outcome(arguments{p: order.relation()}); got != first[i] {
				t.Errorf("%v: two results: %s, %s", order, first[i], got)
			}
		}
	}
}
