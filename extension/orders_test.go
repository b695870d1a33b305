package extension_test

import (
	"fmt"
	"math"
	"slices"

	"antecede/api"
)

// table is a relation as a table of truths: table[i][j] tells whether i is related to j. The tests
// compute with tables by the definitions.
type table [][]bool

func newTable(n int, has func(i, j int) bool) table {
	t := make(table, n)
	for i := range t {
		t[i] = make([]bool, n)
		for j := range t[i] {
			t[i][j] = has(i, j)
		}
	}
	return t
}

func tableOf(n int, pairs ...[2]int) table {
	return newTable(n, func(i, j int) bool { return slices.Contains(pairs, [2]int{i, j}) })
}

// String is short for many pairs.
func (t table) String() string {
	var l [][2]int
	for i := range t {
		for j := range t {
			if t[i][j] {
				l = append(l, [2]int{i, j})
			}
		}
	}
	if len(l) > 40 {
		return fmt.Sprintf("%v.. (%d pairs of %d elements)", l[:40], len(l), len(t))
	}
	return fmt.Sprintf("%v (of %d elements)", l, len(t))
}

// relation has rows of its own, which are made bit by bit.
func (t table) relation() api.Relation {
	n := len(t)
	r := api.Relation{Rows: make([]api.Set, n)}
	for i := range t {
		words := make([]uint64, (n+63)/64)
		for j, truth := range t[i] {
			if truth {
				words[j/64] |= uint64(1) << (j % 64)
			}
		}
		r.Rows[i] = api.Set{N: n, W: words}
	}
	return r
}

// read returns a relation as a table, and tells whether it is a well-formed one of n numbers.
func read(n int, r api.Relation) (table, bool) {
	if len(r.Rows) != n {
		return nil, false
	}
	for _, row := range r.Rows {
		if row.N != n || len(row.W) != (n+63)/64 {
			return nil, false
		}
	}
	t := newTable(n, func(i, j int) bool { return r.Rows[i].W[j/64]>>(j%64)%2 == 1 })
	// There are no bits beyond the numbers.
	return t, slices.EqualFunc(t.relation().Rows, r.Rows, func(a, b api.Set) bool { return slices.Equal(a.W, b.W) })
}

func (t table) isEqual(other table) bool {
	return slices.EqualFunc(t, other, slices.Equal)
}

func (t table) with(i, j int, truth bool) table {
	return newTable(len(t), func(a, b int) bool {
		if a == i && b == j {
			return truth
		}
		return t[a][b]
	})
}

// renamed calls the number names[i] of t i.
func (t table) renamed(names []int) table {
	return newTable(len(names), func(i, j int) bool { return t[names[i]][names[j]] })
}

func (t table) isOrder() bool {
	for i := range t {
		if t[i][i] {
			return false
		}
		for j := range t {
			for k := range t {
				if t[i][j] && t[j][k] && !t[i][k] {
					return false
				}
			}
		}
	}
	return true
}

// reached returns which numbers sequences of steps from i lead to, for each i.
func (t table) reached() table {
	result := newTable(len(t), func(i, j int) bool { return false })
	for i := range t {
		var visit func(k int)
		visit = func(k int) {
			for j := range t {
				if t[k][j] && !result[i][j] {
					result[i][j] = true
					visit(j)
				}
			}
		}
		visit(i)
	}
	return result
}

// isExtension looks at all pairs of places.
func (t table) isExtension(l []int) bool {
	if !hasAll(len(t), l) {
		return false
	}
	for at, i := range l {
		for _, j := range l[:at] {
			if t[i][j] {
				return false
			}
		}
	}
	return true
}

// extensions are all of them, ascending.
func (t table) extensions() [][]int {
	var l [][]int
	for _, p := range permutations(len(t)) {
		if t.isExtension(p) {
			l = append(l, p)
		}
	}
	return l
}

// extended begins with first, and goes on with one of the elements that are free, again and again: they
// are not placed, while all that are less are.
func (t table) extended(first []int, pick func(free []int) int) []int {
	var l []int
	isPlaced, waiting := make([]bool, len(t)), make([]int, len(t))
	count := func(i, change int) {
		for j, truth := range t[i] {
			if truth {
				waiting[j] += change
			}
		}
	}
	for i := range t {
		count(i, 1)
	}
	for len(l) < len(t) {
		var i int
		if len(l) < len(first) {
			i = first[len(l)]
		} else {
			i = pick(slices.DeleteFunc(numbers(len(t)), func(j int) bool { return isPlaced[j] || waiting[j] > 0 }))
		}
		count(i, -1)
		isPlaced[i] = true
		l = append(l, i)
	}
	return l
}

func (t table) least(first ...int) []int {
	return t.extended(first, func(free []int) int { return free[0] })
}

func (t table) last() []int {
	return t.extended(nil, func(free []int) int { return free[len(free)-1] })
}

// some is any extension.
func (t table) some(next func(n int) int) []int {
	return t.extended(nil, func(free []int) int { return free[next(len(free))] })
}

// following is the extension after l: it goes on in the same way as long as can be, and there is a
// greater element then, as small as can be. It tells, too, whether there is one.
func (t table) following(l []int) ([]int, bool) {
	for at, i := range slices.Backward(l) {
		rest := l[at:]
		greater := slices.DeleteFunc(slices.Clone(rest), func(j int) bool {
			return j <= i || slices.ContainsFunc(rest, func(k int) bool { return t[k][j] })
		})
		if len(greater) > 0 {
			return t.least(slices.Concat(l[:at], []int{slices.Min(greater)})...), true
		}
	}
	return nil, false
}

// hasAll tells whether l has the numbers from 0 to n - 1, each once.
func hasAll(n int, l []int) bool {
	return slices.Equal(slices.Sorted(slices.Values(l)), numbers(n))
}

// permutations are those of the numbers from 0 to n - 1, ascending.
func permutations(n int) [][]int {
	l := [][]int{{}}
	for range n {
		var longer [][]int
		for _, p := range l {
			for i := range n {
				if !slices.Contains(p, i) {
					longer = append(longer, append(slices.Clone(p), i))
				}
			}
		}
		l = longer
	}
	return l
}

// lists are all lists of at most length of the numbers from -1 to n.
func lists(n, length int) [][]int {
	l := [][]int{nil}
	for first := 0; length > 0; length-- {
		last := len(l)
		for _, shorter := range l[first:last] {
			for i := -1; i <= n; i++ {
				l = append(l, append(slices.Clone(shorter), i))
			}
		}
		first = last
	}
	return l
}

// random returns numbers below n of a fixed sequence (SplitMix64).
func random(seed uint64) func(n int) int {
	return func(n int) int {
		seed += 0x9e3779b97f4a7c15
		x := seed
		x = (x ^ x>>30) * 0xbf58476d1ce4e5b9
		x = (x ^ x>>27) * 0x94d049bb133111eb
		return int((x ^ x>>31) % uint64(n))
	}
}

// numbers are those from 0 to n - 1.
func numbers(n int) []int {
	l := make([]int, n)
	for i := range l {
		l[i] = i
	}
	return l
}

func reversed(l []int) []int {
	l = slices.Clone(l)
	slices.Reverse(l)
	return l
}

// shuffled returns the numbers from 0 to n - 1 in some order.
func shuffled(n int, next func(n int) int) []int {
	l := numbers(n)
	for i := range l {
		k := next(i + 1)
		l[i], l[k] = l[k], l[i]
	}
	return l
}

// inverse returns the places of the numbers in l.
func inverse(l []int) []int {
	places := make([]int, len(l))
	for at, i := range l {
		places[i] = at
	}
	return places
}

// all are the tables of all relations on n numbers.
func all(n int) []table {
	var l []table
	for code := range 1 << (n * n) {
		l = append(l, newTable(n, func(i, j int) bool { return code>>(i*n+j)%2 == 1 }))
	}
	return l
}

// orders are the tables of all orders of n elements: those of n - 1 elements with one more, for which
// each other one is less, or greater, or neither.
func orders(n int) []table {
	if n == 0 {
		return []table{{}}
	}
	var l []table
	for _, smaller := range orders(n - 1) {
		for lower := range 1 << (n - 1) {
			for upper := range 1 << (n - 1) {
				t := newTable(n, func(i, j int) bool {
					switch {
					case i == n-1 && j == n-1:
						return false
					case i == n-1:
						return upper>>j%2 == 1
					case j == n-1:
						return lower>>i%2 == 1
					}
					return smaller[i][j]
				})
				if t.isOrder() {
					l = append(l, t)
				}
			}
		}
	}
	return l
}

// small are all orders of at most 5 elements.
func small() []table {
	return slices.Concat(orders(0), orders(1), orders(2), orders(3), orders(4), orders(5))
}

// middle are orders of 6 and 7 elements, of which all lists can still be tried.
func middle() []table {
	next := random(1)
	var l []table
	for _, n := range []int{6, 6, 6, 6, 6, 7, 7} {
		l = append(l, chain(n), noPairs(n), fence(n), crown(n/2), chains(2, n-2), chains(1, 2, n-3))
		for share := range 6 {
			names := shuffled(n, next)
			l = append(l, newTable(n, func(i, j int) bool { return names[i] < names[j] && next(share+2) == 0 }).reached())
		}
		for k := range l {
			l[k] = l[k].renamed(shuffled(len(l[k]), next))
		}
	}
	return l
}

func chain(n int) table {
	return newTable(n, func(i, j int) bool { return i < j })
}

func noPairs(n int) table {
	return newTable(n, func(i, j int) bool { return false })
}

// layers has as many elements in each layer as given, each one less than all of the next layers.
func layers(sizes ...int) table {
	var layer []int
	for k, size := range sizes {
		layer = append(layer, slices.Repeat([]int{k}, size)...)
	}
	return newTable(len(layer), func(i, j int) bool { return layer[i] < layer[j] })
}

// chains are chains of the given lengths, without pairs between them.
func chains(lengths ...int) table {
	var chain []int
	for k, length := range lengths {
		chain = append(chain, slices.Repeat([]int{k}, length)...)
	}
	return newTable(len(chain), func(i, j int) bool { return i < j && chain[i] == chain[j] })
}

// twos are count layers of two elements: which one of them is first, is free in each layer.
func twos(count int) table {
	return layers(slices.Repeat([]int{2}, count)...)
}

// above puts orders above each other: each element of the first one is less than all of the others.
func above(l ...table) table {
	if len(l) == 1 {
		return l[0]
	}
	first, others := l[0], above(l[1:]...)
	m := len(first)
	return newTable(m+len(others), func(i, j int) bool {
		switch {
		case i < m && j < m:
			return first[i][j]
		case i >= m && j >= m:
			return others[i-m][j-m]
		}
		return i < m
	})
}

// crown is the standard example: each lower element is less than all upper ones but its own.
func crown(n int) table {
	return newTable(2*n, func(i, j int) bool { return i < n && j >= n && j != i+n })
}

// fence goes up and down: 0 < 1 > 2 < 3 ..
func fence(n int) table {
	return newTable(n, func(i, j int) bool { return i%2 == 0 && (j == i-1 || j == i+1) })
}

// grid is the product of two chains.
func grid(a, b int) table {
	return newTable(a*b, func(i, j int) bool { return i != j && i/b <= j/b && i%b <= j%b })
}

// tree has n elements, each of which is less than its two children and all that follow them.
func tree(n int) table {
	return newTable(n, func(i, j int) bool { return i != j && (j == 2*i+1 || j == 2*i+2) }).reached()
}

// exactly is an order with count extensions (2 or more) that is woven from two chains. The golden ratio
// needs the fewest steps.
func exactly(count int) table {
	for b := max(1, int(float64(count)/math.Phi)); ; b++ {
		if isUpper, isPossible := steps(count-b, b); isPossible && len(isUpper) <= 200 {
			return woven(isUpper)
		}
	}
}

// steps leads from 1, 1 to a, b: each one adds the lower number to the upper one, or the other way
// round. It tells, too, whether this is possible.
func steps(a, b int) ([]bool, bool) {
	var isUpper []bool
	for a > 0 && b > 0 && a != b && len(isUpper) <= 200 {
		isUpper = append(isUpper, b > a)
		if b > a {
			b -= a
		} else {
			a -= b
		}
	}
	slices.Reverse(isUpper)
	return isUpper, a == 1 && b == 1
}

// woven has no more than two ideals of each size: the lower one has i elements of the first chain, and j
// of the second one, the upper one one more, and one less. One of them is reached in the ways of both of
// the size before; and the next step forbids the third one.
func woven(isUpper []bool) table {
	i, j := 0, 1
	var pairs [][2][2]int
	for _, upper := range isUpper {
		if upper {
			pairs = append(pairs, [2][2]int{{1, j - 1}, {0, i + 1}})
			j++
		} else {
			pairs = append(pairs, [2][2]int{{0, i}, {1, j}})
			i++
		}
	}
	lengths := [2]int{i + 1, j}
	t := chains(lengths[0], lengths[1])
	for _, pair := range pairs {
		less, greater := pair[0], pair[1]
		if less[1] < lengths[less[0]] && greater[1] < lengths[greater[0]] {
			t[less[0]*lengths[0]+less[1]][greater[0]*lengths[0]+greater[1]] = true
		}
	}
	return t.reached()
}

// sample is an order whose number of extensions is known.
type sample struct {
	order table
	count int
}

func factorial(n int) int {
	product := 1
	for i := range n {
		product *= i + 1
	}
	return product
}

// choose is the number of sets of k of n numbers.
func choose(n, k int) int {
	result := 1
	for i := range k {
		result = result * (n - i) / (i + 1)
	}
	return result
}

// counted are orders with at most MaxCuts ideals, and at most MaxNumber extensions.
func counted() []sample {
	l := []sample{
		{chain(0), 1}, {chain(1), 1}, {chain(2), 1}, {chain(63), 1}, {chain(64), 1}, {chain(65), 1},
		{chain(511), 1}, {chain(512), 1},
		{layers(1, 2, 1), 2}, {layers(7, 1, 7, 1, 7), factorial(7) * factorial(7) * factorial(7)},
		{layers(3, 5, 2), factorial(3) * factorial(5) * factorial(2)}, {layers(11, 10), factorial(11) * factorial(10)},
		{chains(1, 2), 3}, {chains(2, 2), 6}, {chains(1, 511), 512}, {chains(2, 62), choose(64, 2)},
		{chains(2, 63), choose(65, 2)}, {chains(9, 9), choose(18, 9)}, {chains(26, 27), choose(53, 26)},
		{chains(6, 506), choose(512, 6)}, {chains(4, 5, 6), choose(15, 4) * choose(11, 5)},
		{chains(2, 2, 2, 2), factorial(8) / 16},
		{fence(2), 1}, {fence(3), 2}, {fence(4), 5}, {fence(5), 16}, {fence(6), 61}, {fence(7), 272},
		{fence(8), 1385}, {fence(9), 7936},
		{grid(2, 2), 2}, {grid(2, 3), 5}, {grid(2, 10), choose(20, 10) / 11}, {grid(3, 3), 42}, {grid(4, 4), 24024},
		{tree(3), 2}, {tree(7), 80}, {tree(15), 21964800},
		{above(noPairs(3), chains(2, 2), fence(5)), 6 * 6 * 16},
		{above(twos(9), chains(1, 230)), 231 << 9},
		// Nearly, and exactly, MaxNumber extensions.
		{twos(49), 1 << 49}, {above(twos(47), noPairs(3)), 6 << 47}, {above(chains(1, 126), twos(43)), 127 << 43},
		{above(twos(42), chains(1, 254)), 255 << 42},
		{twos(50), 1 << 50}, {above(twos(25), chain(400), twos(25)), 1 << 50}, {above(twos(43), chains(1, 127)), 1 << 50},
	}
	for _, count := range []int{2, 3, 4, 5, 17, 1000003, 1<<31 - 1, 1 << 32, api.MaxNumber - 1, api.MaxNumber} {
		l = append(l, sample{exactly(count), count})
	}
	for n := range 13 {
		l = append(l, sample{noPairs(n), factorial(n)})
	}
	return append(l, full()...)
}

// full are orders with exactly MaxCuts ideals.
func full() []sample {
	return []sample{
		{above(noPairs(12), noPairs(9), chain(393)), factorial(12) * factorial(9)},
		{above(chain(393), noPairs(9), noPairs(12)), factorial(12) * factorial(9)},
		{above(noPairs(7), chains(1, 388), noPairs(12)), factorial(12) * factorial(7) * 389},
	}
}

// named are the same orders with other names of the elements, too: in the opposite order, so that most
// pairs are against that of the numbers, and in some order.
func named(l []sample) []sample {
	next := random(2)
	var result []sample
	for _, s := range l {
		n := len(s.order)
		for _, names := range [][]int{numbers(n), reversed(numbers(n)), shuffled(n, next)} {
			result = append(result, sample{s.order.renamed(names), s.count})
		}
	}
	return result
}

// numerous are orders with at most MaxCuts ideals, but more than MaxNumber extensions, also more than
// an int can count.
func numerous() []table {
	return []table{
		exactly(api.MaxNumber + 1), exactly(api.MaxNumber + 2), exactly(api.MaxNumber + 3), exactly(1 << 60),
		above(twos(42), chains(1, 256)), above(twos(43), chains(1, 128)), above(twos(48), chains(1, 4)),
		twos(51), twos(52), twos(62), twos(63), twos(64), twos(65), twos(100), twos(128), twos(256),
		chains(27, 27), chains(28, 28), chains(40, 40), chains(69, 69), chains(7, 505),
		layers(11, 11), layers(slices.Repeat([]int{3}, 128)...),
		// With exactly MaxCuts ideals.
		chains(9, 499), above(noPairs(12), noPairs(9), noPairs(8), chain(138)),
	}
}

// wide are orders with more than MaxCuts ideals: the first ones with one more. Some have more than
// MaxNumber extensions, others do not.
func wide() []table {
	return []table{
		above(noPairs(12), noPairs(9), chain(394)), above(chain(394), noPairs(9), noPairs(12)),
		above(chain(1), noPairs(7), chains(1, 388), noPairs(12)),
		above(chains(9, 499), chain(1)), above(noPairs(12), noPairs(9), noPairs(8), chain(139)),
		noPairs(13), noPairs(14), noPairs(18), noPairs(63), noPairs(64), noPairs(65), noPairs(511), noPairs(512),
		above(chain(480), noPairs(13)), above(noPairs(13), chain(480)),
		chains(70, 70), chains(9, 500), chains(256, 256), chains(17, 17, 17), crown(13), crown(256), fence(30), fence(512),
		layers(256, 256), layers(12, 12), grid(8, 64), tree(31), tree(512),
	}
}

// malformed are relations that are not well-formed.
func malformed() []api.Relation {
	set := func(n int, words ...uint64) api.Set { return api.Set{N: n, W: words} }
	rows := func(l ...api.Set) api.Relation { return api.Relation{Rows: l} }
	equal := func(count int, s api.Set) api.Relation { return api.Relation{Rows: slices.Repeat([]api.Set{s}, count)} }
	return []api.Relation{
		rows(set(0)),
		rows(set(-1)),
		rows(set(2, 0)),
		rows(set(1)),
		rows(set(1, 2)),
		rows(set(1, 0, 0)),
		rows(set(64, 0)),
		rows(set(math.MinInt)),
		rows(set(math.MaxInt, 1)),
		rows(set(2, 0), set(1, 0)),
		rows(set(1, 0), set(2, 0)),
		rows(set(2, 2), set(3, 0)),
		rows(set(2, 2), set(0)),
		rows(set(2, 2), set(2)),
		rows(set(2, 2), set(2, 4)),
		rows(set(2, 0), set(2, 1<<63)),
		rows(set(2, 0), set(2, 0, 0)),
		equal(64, set(64)),
		equal(65, set(65, 0)),
		equal(65, set(65, 0, 2)),
		equal(65, set(64, 0)),
		equal(512, set(511, make([]uint64, 8)...)),
		equal(512, set(512, make([]uint64, 9)...)),
		equal(513, set(512, make([]uint64, 8)...)),
		equal(513, set(0)),
		noPairs(513).relation(),
		chain(513).relation(),
		equal(100000, set(100000)),
	}
}

// disorders are relations that are well-formed, but no orders.
func disorders() []table {
	last := api.MaxSet - 1
	l := []table{
		// A step from a number to itself, in a transitive relation.
		tableOf(1, [2]int{0, 0}),
		tableOf(3, [2]int{2, 2}),
		tableOf(2, [2]int{0, 0}, [2]int{0, 1}),
		newTable(64, func(i, j int) bool { return i <= j }),
		newTable(65, func(i, j int) bool { return i == 64 && j == 64 }),
		chain(api.MaxSet).with(last, last, true),
		noPairs(api.MaxSet).with(last, last, true),
		// Irreflexive relations that are not transitive.
		tableOf(2, [2]int{0, 1}, [2]int{1, 0}),
		tableOf(3, [2]int{0, 1}, [2]int{1, 2}),
		tableOf(3, [2]int{2, 1}, [2]int{1, 0}),
		tableOf(4, [2]int{0, 1}, [2]int{1, 2}, [2]int{0, 2}, [2]int{2, 3}, [2]int{1, 3}),
		newTable(63, func(i, j int) bool { return i != j }),
		newTable(api.MaxSet, func(i, j int) bool { return j == i+1 }),
		tableOf(api.MaxSet, [2]int{last, 64}, [2]int{64, 0}),
		chain(64).with(0, 63, false),
		chain(65).with(63, 0, true),
		chain(api.MaxSet).with(0, last, false),
		chain(api.MaxSet).with(last, 0, true),
	}
	for _, t := range slices.Concat(all(2), all(3)) {
		if !t.isOrder() {
			l = append(l, t)
		}
	}
	return l
}

// notOrders are all the relations that are no orders, for one reason or the other.
func notOrders() []api.Relation {
	l := malformed()
	for _, t := range disorders() {
		l = append(l, t.relation())
	}
	return l
}

// wrongLists have something wrong, so that they do not have the numbers from 0 to n - 1, each once.
// The good list l has.
func wrongLists(l []int) [][]int {
	n := len(l)
	wrong := [][]int{append(slices.Clone(l), n), append(slices.Clone(l), -1), append(slices.Clone(l), 0), make([]int, n+1), make([]int, 100000)}
	if n == 0 {
		return wrong
	}
	wrong = append(wrong, nil, []int{}, l[1:], l[:n-1], slices.Concat(l, l), append(slices.Clone(l), l[n-1]), append([]int{l[0]}, l...))
	others := []int{-1, n, n + 1, -n, 64, 512, 513, 1 << 32, math.MinInt, math.MinInt + 1, math.MaxInt}
	for _, at := range []int{0, n / 2, n - 1} {
		for _, i := range append(others, l[(at+1)%n], l[(at+n-1)%n]) {
			if i < 0 || i >= n || i != l[at] {
				wrong = append(wrong, slices.Replace(slices.Clone(l), at, at+1, i))
			}
		}
	}
	return wrong
}

// show is short for relations with many rows.
func show(r api.Relation) string {
	if len(r.Rows) > 9 {
		return fmt.Sprintf("%v.. (%d rows)", r.Rows[:2], len(r.Rows))
	}
	return fmt.Sprint(r.Rows)
}

// brief is short for long lists.
func brief(l []int) string {
	if len(l) > 30 {
		return fmt.Sprintf("%v.. (%d elements)", l[:30], len(l))
	}
	return fmt.Sprint(l)
}
