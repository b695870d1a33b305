package poset_test

import (
	"fmt"
	"math"
	"slices"
	"testing"

	"antecede/api"
	"antecede/poset"
)

// table is a relation as a table of truths: table[i][j] tells whether i is related to j. The tests
// compute with tables by the definitions.
type table [][]bool

func newTable(n int, has func(i, j int) bool) table {
	t := make(table, n)
	for i := range t {
		t[i] = make([]bool, n)
		for j := range t[i] {
			t[i][j] = has(i, j)
		}
	}
	return t
}

func tableOf(n int, pairs ...[2]int) table {
	return newTable(n, func(i, j int) bool { return slices.Contains(pairs, [2]int{i, j}) })
}

func (t table) pairs() [][2]int {
	var l [][2]int
	for i := range t {
		for j := range t {
			if t[i][j] {
				l = append(l, [2]int{i, j})
			}
		}
	}
	return l
}

// String is short for many pairs.
func (t table) String() string {
	l := t.pairs()
	if len(l) > 40 {
		return fmt.Sprintf("%v.. (%d pairs of %d numbers)", l[:40], len(l), len(t))
	}
	return fmt.Sprintf("%v (of %d numbers)", l, len(t))
}

// relation has rows of its own, which are made bit by bit.
func (t table) relation() api.Relation {
	r := api.Relation{Rows: make([]api.Set, len(t))}
	for i := range t {
		r.Rows[i] = setOf(t[i])
	}
	return r
}

func (t table) with(i, j int, truth bool) table {
	return newTable(len(t), func(a, b int) bool {
		if a == i && b == j {
			return truth
		}
		return t[a][b]
	})
}

func (t table) isWithin(other table) bool {
	for i := range t {
		for j := range t {
			if t[i][j] && !other[i][j] {
				return false
			}
		}
	}
	return true
}

func (t table) isOrder() bool {
	for i := range t {
		if t[i][i] {
			return false
		}
		for j := range t {
			for k := range t {
				if t[i][j] && t[j][k] && !t[i][k] {
					return false
				}
			}
		}
	}
	return true
}

// reached returns which numbers sequences of steps from i lead to, for each i.
func (t table) reached() table {
	result := newTable(len(t), func(i, j int) bool { return false })
	for i := range t {
		var visit func(k int)
		visit = func(k int) {
			for j := range t {
				if t[k][j] && !result[i][j] {
					result[i][j] = true
					visit(j)
				}
			}
		}
		visit(i)
	}
	return result
}

// has tells whether the truth of some number is true.
func has(n int, is func(i int) bool) bool {
	for i := range n {
		if is(i) {
			return true
		}
	}
	return false
}

func (t table) covers() table {
	return newTable(len(t), func(i, j int) bool {
		return t[i][j] && !has(len(t), func(k int) bool { return t[i][k] && t[k][j] })
	})
}

func (t table) minimal() truths {
	return newTruths(len(t), func(i int) bool { return !has(len(t), func(k int) bool { return t[k][i] }) })
}

func (t table) maximal() truths {
	return newTruths(len(t), func(i int) bool { return !has(len(t), func(k int) bool { return t[i][k] }) })
}

func (t table) down(s truths) truths {
	return newTruths(len(t), func(i int) bool { return s[i] || has(len(t), func(k int) bool { return s[k] && t[i][k] }) })
}

func (t table) up(s truths) truths {
	return newTruths(len(t), func(i int) bool { return s[i] || has(len(t), func(k int) bool { return s[k] && t[k][i] }) })
}

func (t table) restricted(s truths) table {
	m := s.members()
	return newTable(len(m), func(i, j int) bool { return t[m[i]][m[j]] })
}

// levels searches through all sequences of elements, each one less than the next one.
func (t table) levels() []int {
	l := make([]int, len(t))
	var extend func(length, last int)
	extend = func(length, last int) {
		l[last] = max(l[last], length)
		for j := range t {
			if t[last][j] {
				extend(length+1, j)
			}
		}
	}
	for i := range t {
		extend(0, i)
	}
	return l
}

// truths is a set as a list of truths.
type truths []bool

func newTruths(n int, has func(i int) bool) truths {
	s := make(truths, n)
	for i := range s {
		s[i] = has(i)
	}
	return s
}

func truthsOf(n int, members ...int) truths {
	return newTruths(n, func(i int) bool { return slices.Contains(members, i) })
}

func (s truths) members() []int {
	var l []int
	for i, truth := range s {
		if truth {
			l = append(l, i)
		}
	}
	return l
}

func setOf(s truths) api.Set {
	var words []uint64
	for i, truth := range s {
		if i%64 == 0 {
			words = append(words, 0)
		}
		if truth {
			words[i/64] |= uint64(1) << (i % 64)
		}
	}
	return api.Set{N: len(s), W: words}
}

// random returns numbers below n of a fixed sequence (SplitMix64).
func random(seed uint64) func(n int) int {
	return func(n int) int {
		seed += 0x9e3779b97f4a7c15
		x := seed
		x = (x ^ x>>30) * 0xbf58476d1ce4e5b9
		x = (x ^ x>>27) * 0x94d049bb133111eb
		return int((x ^ x>>31) % uint64(n))
	}
}

// shuffled returns the numbers from 0 to n - 1 in some order.
func shuffled(n int, next func(n int) int) []int {
	l := make([]int, n)
	for i := range l {
		l[i] = i
		k := next(i + 1)
		l[i], l[k] = l[k], l[i]
	}
	return l
}

// all are the tables of all relations on n numbers.
func all(n int) []table {
	var l []table
	for code := range 1 << (n * n) {
		l = append(l, newTable(n, func(i, j int) bool { return code>>(i*n+j)%2 == 1 }))
	}
	return l
}

// orders are the tables of all orders of n elements: those of n - 1 elements with one more, for
// which each other one is less, or greater, or neither.
func orders(n int) []table {
	if n == 0 {
		return []table{{}}
	}
	var l []table
	for _, smaller := range orders(n - 1) {
		for lower := range 1 << (n - 1) {
			for upper := range 1 << (n - 1) {
				t := newTable(n, func(i, j int) bool {
					switch {
					case i == n-1 && j == n-1:
						return false
					case i == n-1:
						return upper>>j%2 == 1
					case j == n-1:
						return lower>>i%2 == 1
					}
					return smaller[i][j]
				})
				if t.isOrder() {
					l = append(l, t)
				}
			}
		}
	}
	return l
}

// subsets are all sets with N = n.
func subsets(n int) []truths {
	var l []truths
	for code := range 1 << n {
		l = append(l, newTruths(n, func(i int) bool { return code>>i%2 == 1 }))
	}
	return l
}

func small() []table {
	return slices.Concat(orders(0), orders(1), orders(2), orders(3), orders(4))
}

// families are orders of n elements of many kinds; most of them are transitive by themselves, the
// last ones by reached.
func families(n int, next func(n int) int) []table {
	a, b := shuffled(n, next), shuffled(n, next)
	lower := newTruths(n, func(i int) bool { return next(2) == 0 })
	return []table{
		newTable(n, func(i, j int) bool { return false }),
		newTable(n, func(i, j int) bool { return i < j }),
		newTable(n, func(i, j int) bool { return i > j }),
		newTable(n, func(i, j int) bool { return a[i] < a[j] }),
		newTable(n, func(i, j int) bool { return a[i] < a[j] && b[i] < b[j] }),
		newTable(n, func(i, j int) bool { return a[i] < a[j] && a[i]%3 == a[j]%3 }),
		newTable(n, func(i, j int) bool { return a[i]/3 < a[j]/3 }),
		newTable(n, func(i, j int) bool { return i != j && (a[i]+1)%(a[j]+1) == 0 }),
		newTable(n, func(i, j int) bool { return lower[i] && !lower[j] }),
		newTable(n, func(i, j int) bool { return lower[i] && !lower[j] && next(4) == 0 }),
		newTable(n, func(i, j int) bool { return i == n-1 && j != i }),
		newTable(n, func(i, j int) bool { return a[i] == a[j]+1 && a[j]%5 != 0 }).reached(),
		newTable(n, func(i, j int) bool { return a[i] < a[j] && next(n) == 0 }).reached(),
	}
}

// others are orders of some greater sizes.
func others() []table {
	next := random(1)
	var l []table
	for _, n := range []int{5, 6, 7, 8, 9, 63, 64, 65, 70, 128, 129} {
		l = append(l, families(n, next)...)
	}
	return l
}

// greatest are orders with as many elements as there may be.
func greatest() []table {
	return families(api.MaxSet, random(2))
}

func samples() []table {
	return slices.Concat(small(), others(), greatest())
}

// some are a few sets of the elements of an order of any size: also the empty and the whole one.
func some(n int, next func(n int) int) []truths {
	l := []truths{
		newTruths(n, func(i int) bool { return false }),
		newTruths(n, func(i int) bool { return true }),
		newTruths(n, func(i int) bool { return i == n-1 }),
		newTruths(n, func(i int) bool { return i == 0 || i == n/2 }),
		newTruths(n, func(i int) bool { return i%2 == 0 }),
	}
	for _, share := range []int{1, 2, 3, n} {
		l = append(l, newTruths(n, func(i int) bool { return next(share+1) == 0 }))
	}
	return l
}

// malformed are relations that are not well-formed.
func malformed() []api.Relation {
	set := func(n int, words ...uint64) api.Set { return api.Set{N: n, W: words} }
	rows := func(l ...api.Set) api.Relation { return api.Relation{Rows: l} }
	equal := func(count int, s api.Set) api.Relation { return api.Relation{Rows: slices.Repeat([]api.Set{s}, count)} }
	return []api.Relation{
		rows(set(0)),
		rows(set(-1)),
		rows(set(2, 0)),
		rows(set(1)),
		rows(set(1, 2)),
		rows(set(1, 0, 0)),
		rows(set(64, 0)),
		rows(set(1<<32, 1)),
		rows(set(math.MinInt)),
		rows(set(math.MaxInt, 1)),
		rows(set(2, 0), set(1, 0)),
		rows(set(1, 0), set(2, 0)),
		rows(set(2, 2), set(3, 0)),
		rows(set(2, 2), set(0)),
		rows(set(2, 2), set(2)),
		rows(set(2, 2), set(2, 4)),
		rows(set(2, 4), set(2, 0)),
		rows(set(2, 0), set(2, 1<<63)),
		rows(set(2, 0), set(2, 0, 0)),
		rows(set(3, 1), set(3, 2)),
		// A cycle, and a row that is not valid.
		rows(set(2, 2), set(2, 5)),
		rows(set(2, 3), set(2, 7)),
		rows(set(3, 2), set(3, 1), set(2, 0)),
		rows(set(3, 2), set(3, 4), set(3, 9)),
		equal(64, set(64)),
		equal(65, set(65, 0)),
		equal(65, set(65, 0, 2)),
		equal(65, set(64, 0)),
		equal(511, set(512, make([]uint64, 8)...)),
		equal(512, set(511, make([]uint64, 8)...)),
		equal(512, set(512, make([]uint64, 9)...)),
		equal(513, set(512, make([]uint64, 8)...)),
		equal(513, set(513, make([]uint64, 9)...)),
		equal(513, set(0)),
		equal(576, set(576, make([]uint64, 9)...)),
		equal(1000, set(1000, make([]uint64, 16)...)),
		equal(100000, set(100000)),
	}
}

// disorders are relations that are well-formed, but no orders.
func disorders() []table {
	const n = api.MaxSet
	ring := func(n int) table { return newTable(n, func(i, j int) bool { return j == (i+1)%n }) }
	full := func(n int) table { return newTable(n, func(i, j int) bool { return true }) }
	next := random(3)
	a := shuffled(n, next)
	chain := newTable(n, func(i, j int) bool { return a[i] < a[j] })
	first, last := slices.Index(a, 0), slices.Index(a, n-1)
	l := []table{
		// A step from an element to itself, in a transitive relation.
		tableOf(1, [2]int{0, 0}),
		tableOf(3, [2]int{2, 2}),
		tableOf(2, [2]int{0, 0}, [2]int{0, 1}),
		full(2), full(3), full(64), full(65), full(n),
		newTable(64, func(i, j int) bool { return i <= j }),
		newTable(65, func(i, j int) bool { return i == 64 && j == 64 }),
		chain.with(first, first, true),
		chain.with(last, last, true),
		// Irreflexive relations that are not transitive.
		tableOf(2, [2]int{0, 1}, [2]int{1, 0}),
		tableOf(3, [2]int{0, 1}, [2]int{1, 2}),
		tableOf(3, [2]int{2, 1}, [2]int{1, 0}),
		tableOf(4, [2]int{0, 1}, [2]int{1, 2}, [2]int{0, 2}, [2]int{2, 3}, [2]int{1, 3}),
		newTable(n, func(i, j int) bool { return i != j }),
		newTable(n, func(i, j int) bool { return j == i+1 }),
		chain.with(first, last, false),
		chain.with(last, first, true),
		ring(3), ring(64), ring(65), ring(n),
		tableOf(n, [2]int{511, 64}, [2]int{64, 0}),
	}
	for _, t := range slices.Concat(all(2), all(3)) {
		if !t.isOrder() {
			l = append(l, t)
		}
	}
	return l
}

// notOrders are all the relations that are no orders, for one reason or the other.
func notOrders() []api.Relation {
	l := malformed()
	for _, t := range disorders() {
		l = append(l, t.relation())
	}
	return l
}

// notSets are sets that are none of n elements.
func notSets(n int) []api.Set {
	words := (n + 63) / 64
	zero := func(count int) []uint64 { return make([]uint64, count) }
	l := []api.Set{
		{N: n - 1, W: zero((n + 62) / 64)},
		{N: n + 1, W: zero((n + 64) / 64)},
		{N: n + 64, W: zero(words + 1)},
		{N: -n - 1, W: zero(words)},
		{N: n, W: zero(words + 1)},
		{N: math.MinInt}, {N: math.MaxInt}, {N: math.MaxInt, W: zero(words)},
		{N: 513, W: zero(9)},
	}
	if n > 0 {
		l = append(l, api.Set{}, api.Set{N: n}, api.Set{N: n, W: zero(words - 1)}, api.Set{N: 0, W: zero(words)})
	}
	if n%64 > 0 {
		beyond := zero(words)
		beyond[words-1] = 1 << (n % 64)
		highest := zero(words)
		highest[words-1] = 1<<63 | 1
		l = append(l, api.Set{N: n, W: beyond}, api.Set{N: n, W: highest})
	}
	return l
}

func cloneSet(s api.Set) api.Set {
	return api.Set{N: s.N, W: slices.Clone(s.W)}
}

func clone(r api.Relation) api.Relation {
	rows := slices.Clone(r.Rows)
	for i := range rows {
		rows[i] = cloneSet(rows[i])
	}
	return api.Relation{Rows: rows}
}

func areEqual(a, b api.Set) bool {
	return a.N == b.N && slices.Equal(a.W, b.W)
}

func isEqual(a, b api.Relation) bool {
	return slices.EqualFunc(a.Rows, b.Rows, areEqual)
}

// show is short for relations with many rows.
func show(r api.Relation) string {
	if len(r.Rows) > 9 {
		return fmt.Sprintf("%v.. (%d rows)", r.Rows[:2], len(r.Rows))
	}
	return fmt.Sprint(r.Rows)
}

func checkRelation(t *testing.T, what string, of table, got api.Relation, err api.Errno, want table) {
	t.Helper()
	if !isEqual(got, want.relation()) || err != api.OK {
		t.Errorf("%s of %v = %s, %d, want %v", what, of, show(got), err, want)
	}
}

func checkNoRelation(t *testing.T, what string, of, got api.Relation, err, want api.Errno) {
	t.Helper()
	if len(got.Rows) != 0 || err != want {
		t.Errorf("%s of %s = %s, %d, want the error %d", what, show(of), show(got), err, want)
	}
}

func checkSet(t *testing.T, what string, of table, got api.Set, err api.Errno, want truths) {
	t.Helper()
	if !areEqual(got, setOf(want)) || err != api.OK {
		t.Errorf("%s of %v = %v, %d, want %v", what, of, got, err, want.members())
	}
}

func checkNoSet(t *testing.T, what string, of api.Relation, got api.Set, err api.Errno) {
	t.Helper()
	if got.N != 0 || len(got.W) != 0 || err != api.ErrArg {
		t.Errorf("%s of %s = %v, %d, want ErrArg", what, show(of), got, err)
	}
}

// P6.1

func TestValid(t *testing.T) {
	for _, sample := range slices.Concat(all(0), all(1), all(2), all(3), all(4)) {
		if want := sample.isOrder(); poset.Valid(sample.relation()) != want {
			t.Errorf("Valid of %v is not %t", sample, want)
		}
	}
	for _, sample := range slices.Concat(orders(5), others(), greatest()) {
		if !poset.Valid(sample.relation()) {
			t.Errorf("%v is an order", sample)
		}
	}
	if !poset.Valid(api.Relation{}) || !poset.Valid(api.Relation{Rows: []api.Set{}}) {
		t.Error("the relation without rows is an order")
	}
	for i, r := range notOrders() {
		if poset.Valid(r) {
			t.Errorf("%d: %s is no order", i, show(r))
		}
	}
}

func TestNumbersOfOrders(t *testing.T) {
	for n, want := range []int{1, 1, 3, 19, 219, 4231} {
		if got := len(orders(n)); got != want {
			t.Errorf("the tests know %d orders of %d elements, not %d", got, n, want)
		}
	}
}

// Each single row decides: one whose N is another, one with a bit too many, one with other words.
func TestValidRowByRow(t *testing.T) {
	for _, n := range []int{1, 2, 3, 63, 64, 65, 127} {
		good := newTable(n, func(i, j int) bool { return i%2 == 0 && j%2 == 1 && i < j }).relation()
		for i := range n {
			for k, change := range []func(s *api.Set){
				func(s *api.Set) { s.N-- },
				func(s *api.Set) { s.N++ },
				func(s *api.Set) { s.N = -s.N },
				func(s *api.Set) { *s = api.Set{} },
				func(s *api.Set) { s.W = s.W[1:] },
				func(s *api.Set) { s.W = append(s.W, 0) },
				func(s *api.Set) { s.W = nil },
				func(s *api.Set) { s.W[i/64] |= 1 << (i % 64) },
				func(s *api.Set) {
					if n%64 == 0 {
						s.W = append(s.W, 1)
					} else {
						s.W[n/64] |= uint64(1) << (n % 64)
					}
				},
			} {
				r := clone(good)
				change(&r.Rows[i])
				if poset.Valid(r) {
					t.Errorf("the change %d of the row %d of %d", k, i, n)
				}
			}
		}
	}
}

// Each pair that is not a cover is needed, and each pair against the order is too much.
func TestValidPairByPair(t *testing.T) {
	for _, sample := range others() {
		if len(sample) > 9 {
			continue
		}
		for i := range sample {
			for j := range sample {
				changed := sample.with(i, j, !sample[i][j])
				if want := changed.isOrder(); poset.Valid(changed.relation()) != want {
					t.Errorf("Valid of %v is not %t", changed, want)
				}
			}
		}
	}
	for _, n := range []int{64, 65, 512} {
		chain := newTable(n, func(i, j int) bool { return i < j }).relation()
		for _, pair := range [][2]int{{0, 2}, {0, n - 1}, {1, n - 1}, {n - 3, n - 1}, {n / 2, n/2 + 2}, {0, 0}, {n - 1, n - 1}, {1, 0}, {n - 1, n - 2}, {n - 1, 0}} {
			r := clone(chain)
			r.Rows[pair[0]].W[pair[1]/64] ^= 1 << (pair[1] % 64)
			if poset.Valid(r) {
				t.Errorf("a chain of %d elements with the change of the pair %v", n, pair)
			}
		}
		for i := 0; i < n-1; i += 7 {
			r := clone(chain)
			r.Rows[i].W[(i+1)/64] ^= 1 << ((i + 1) % 64)
			if !poset.Valid(r) {
				t.Errorf("a chain of %d elements without the cover of %d", n, i)
			}
		}
	}
}

// Valid and From for each number of rows, up to the limit.
func TestSizes(t *testing.T) {
	for n := range api.MaxSet + 70 {
		row := api.Set{N: n, W: make([]uint64, (n+63)/64)}
		r := api.Relation{Rows: slices.Repeat([]api.Set{row}, n)}
		if got := poset.Valid(r); got != (n <= api.MaxSet) {
			t.Errorf("Valid of %d rows = %t", n, got)
		}
		got, err := poset.From(r)
		if n > api.MaxSet {
			checkNoRelation(t, "From", r, got, err, api.ErrArg)
		} else if !isEqual(got, r) || err != api.OK {
			t.Errorf("From of %d empty rows = %s, %d", n, show(got), err)
		}
	}
}

func checkFrom(t *testing.T, sample table) {
	t.Helper()
	r := sample.relation()
	got, err := poset.From(r)
	reached := sample.reached()
	if has(len(sample), func(i int) bool { return reached[i][i] }) {
		checkNoRelation(t, "From", r, got, err, api.ErrCycle)
		return
	}
	checkRelation(t, "From", sample, got, err, reached)
	if !poset.Valid(got) {
		t.Errorf("From of %v is no order", sample)
	}
}

func TestFrom(t *testing.T) {
	for _, sample := range slices.Concat(all(0), all(1), all(2), all(3), all(4), others(), disorders()) {
		checkFrom(t, sample)
	}
	next := random(4)
	for _, n := range []int{5, 6, 8, 63, 64, 65, 128, 200} {
		for _, share := range []int{1, 2, n, 3 * n} {
			place := shuffled(n, next)
			checkFrom(t, newTable(n, func(i, j int) bool { return next(share*n+1) == 0 }))
			checkFrom(t, newTable(n, func(i, j int) bool { return place[i] < place[j] && next(share) == 0 }))
		}
	}
	for i, r := range malformed() {
		if got, err := poset.From(r); len(got.Rows) != 0 || err != api.ErrArg {
			t.Errorf("%d: From = %s, %d, want ErrArg", i, show(got), err)
		}
	}
}

func TestFromExamples(t *testing.T) {
	for _, c := range []struct {
		n           int
		pairs, want [][2]int
		err         api.Errno
	}{
		{0, nil, nil, api.OK},
		{1, nil, nil, api.OK},
		{1, [][2]int{{0, 0}}, nil, api.ErrCycle},
		{4, [][2]int{{0, 1}, {1, 2}, {3, 2}}, [][2]int{{0, 1}, {0, 2}, {1, 2}, {3, 2}}, api.OK},
		{4, [][2]int{{0, 1}, {1, 2}, {0, 2}, {3, 2}}, [][2]int{{0, 1}, {0, 2}, {1, 2}, {3, 2}}, api.OK},
		{4, [][2]int{{3, 2}, {2, 1}, {1, 0}}, [][2]int{{1, 0}, {2, 0}, {2, 1}, {3, 0}, {3, 1}, {3, 2}}, api.OK},
		{5, [][2]int{{0, 3}, {3, 1}, {1, 4}}, [][2]int{{0, 1}, {0, 3}, {0, 4}, {1, 4}, {3, 1}, {3, 4}}, api.OK},
		{2, [][2]int{{0, 1}, {1, 0}}, nil, api.ErrCycle},
		{4, [][2]int{{0, 1}, {1, 2}, {2, 3}, {3, 1}}, nil, api.ErrCycle},
		{4, [][2]int{{0, 1}, {1, 2}, {2, 3}, {3, 0}}, nil, api.ErrCycle},
		{4, [][2]int{{0, 1}, {3, 3}}, nil, api.ErrCycle},
	} {
		sample := tableOf(c.n, c.pairs...)
		got, err := poset.From(sample.relation())
		if c.err == api.OK {
			checkRelation(t, "From", sample, got, err, tableOf(c.n, c.want...))
		} else {
			checkNoRelation(t, "From", sample.relation(), got, err, c.err)
		}
	}
}

func TestFromManyNumbers(t *testing.T) {
	const n = api.MaxSet
	place := shuffled(n, random(5))
	steps := newTable(n, func(i, j int) bool { return place[j] == place[i]+1 })
	got, err := poset.From(steps.relation())
	checkRelation(t, "From", steps, got, err, newTable(n, func(i, j int) bool { return place[i] < place[j] }))
	for back := range 3 {
		ring := steps.with(slices.Index(place, n-1), slices.Index(place, back*200), true).relation()
		got, err := poset.From(ring)
		checkNoRelation(t, "From", ring, got, err, api.ErrCycle)
	}
	for _, sample := range greatest() {
		got, err := poset.From(sample.relation())
		checkRelation(t, "From", sample, got, err, sample)
	}
}

func TestFromIsLeast(t *testing.T) {
	for n := range 4 {
		for _, a := range all(n) {
			got, err := poset.From(a.relation())
			isBounded := false
			for _, b := range orders(n) {
				if !a.isWithin(b) {
					continue
				}
				isBounded = true
				for i := range b {
					if !areWithin(got.Rows[i].W, setOf(b[i]).W) {
						t.Errorf("%v is less than From of %v", b, a)
					}
				}
			}
			if isBounded != (err == api.OK) {
				t.Errorf("From of %v has the error %d", a, err)
			}
		}
	}
}

func areWithin(a, b []uint64) bool {
	return !has(len(a), func(k int) bool { return a[k]&^b[k] != 0 })
}

// P6.2

func TestCovers(t *testing.T) {
	for _, sample := range slices.Concat(samples(), orders(5)) {
		got, err := poset.Covers(sample.relation())
		checkRelation(t, "Covers", sample, got, err, sample.covers())
	}
	for _, r := range notOrders() {
		got, err := poset.Covers(r)
		checkNoRelation(t, "Covers", r, got, err, api.ErrArg)
	}
}

func TestCoversExamples(t *testing.T) {
	for _, c := range []struct {
		n           int
		pairs, want [][2]int
	}{
		{0, nil, nil},
		{3, nil, nil},
		{4, [][2]int{{0, 1}, {1, 2}, {0, 2}, {3, 2}}, [][2]int{{0, 1}, {1, 2}, {3, 2}}},
		{3, [][2]int{{2, 1}, {1, 0}, {2, 0}}, [][2]int{{1, 0}, {2, 1}}},
		// All pairs are covers.
		{4, [][2]int{{0, 2}, {0, 3}, {1, 2}, {1, 3}}, [][2]int{{0, 2}, {0, 3}, {1, 2}, {1, 3}}},
		// 3 is covered although 0 is also less than what is not less than 3.
		{4, [][2]int{{0, 1}, {0, 3}}, [][2]int{{0, 1}, {0, 3}}},
	} {
		sample := tableOf(c.n, c.pairs...)
		got, err := poset.Covers(sample.relation())
		checkRelation(t, "Covers", sample, got, err, tableOf(c.n, c.want...))
	}
}

func TestLess(t *testing.T) {
	for n := range 5 {
		for _, sample := range all(n) {
			r := sample.relation()
			isOrder := sample.isOrder()
			for i := -2; i < n+2; i++ {
				for j := -2; j < n+2; j++ {
					areElements := 0 <= i && i < n && 0 <= j && j < n
					if want := isOrder && areElements && sample[i][j]; poset.Less(r, i, j) != want {
						t.Errorf("Less(%v, %d, %d) is not %t", sample, i, j, want)
					}
				}
			}
		}
	}
}

func TestLessOfManyElements(t *testing.T) {
	next := random(6)
	for _, sample := range slices.Concat(others(), greatest()) {
		n := len(sample)
		r := sample.relation()
		for range 40 {
			i, j := next(n), next(n)
			if poset.Less(r, i, j) != sample[i][j] {
				t.Errorf("Less(%v, %d, %d) is not %t", sample, i, j, sample[i][j])
			}
		}
	}
	for _, n := range []int{1, 63, 64, 65, 127, 512} {
		r := newTable(n, func(i, j int) bool { return i < j }).relation()
		for _, i := range []int{-1, -64, n, n + 1, n + 63, 576, 1 << 32, math.MaxInt, math.MinInt} {
			for _, j := range []int{0, n - 1, n, -1, i} {
				if poset.Less(r, i, j) || poset.Less(r, j, i) {
					t.Errorf("%d or %d is no element of %d", i, j, n)
				}
			}
		}
	}
}

func TestLessOfNoOrder(t *testing.T) {
	for k, r := range notOrders() {
		for _, i := range []int{0, 1, 2, len(r.Rows) - 1, -1, math.MaxInt} {
			for _, j := range []int{0, 1, 2, len(r.Rows) - 1, -1, math.MinInt} {
				if poset.Less(r, i, j) {
					t.Errorf("%d: Less(%s, %d, %d)", k, show(r), i, j)
				}
			}
		}
	}
}

// P6.3

func TestMinimalAndMaximal(t *testing.T) {
	for _, sample := range slices.Concat(samples(), orders(5)) {
		got, err := poset.Minimal(sample.relation())
		checkSet(t, "Minimal", sample, got, err, sample.minimal())
		got, err = poset.Maximal(sample.relation())
		checkSet(t, "Maximal", sample, got, err, sample.maximal())
	}
	for _, r := range notOrders() {
		got, err := poset.Minimal(r)
		checkNoSet(t, "Minimal", r, got, err)
		got, err = poset.Maximal(r)
		checkNoSet(t, "Maximal", r, got, err)
	}
}

func TestMinimalAndMaximalExamples(t *testing.T) {
	for _, c := range []struct {
		n                int
		pairs            [][2]int
		minimal, maximal []int
	}{
		{0, nil, nil, nil},
		{1, nil, []int{0}, []int{0}},
		{3, nil, []int{0, 1, 2}, []int{0, 1, 2}},
		{4, [][2]int{{0, 1}, {1, 2}, {0, 2}, {3, 2}}, []int{0, 3}, []int{2}},
		{4, [][2]int{{2, 0}}, []int{1, 2, 3}, []int{0, 1, 3}},
	} {
		sample := tableOf(c.n, c.pairs...)
		got, err := poset.Minimal(sample.relation())
		checkSet(t, "Minimal", sample, got, err, truthsOf(c.n, c.minimal...))
		got, err = poset.Maximal(sample.relation())
		checkSet(t, "Maximal", sample, got, err, truthsOf(c.n, c.maximal...))
	}
}

func checkClosures(t *testing.T, sample table, s truths) {
	t.Helper()
	got, err := poset.Down(sample.relation(), setOf(s))
	checkSet(t, fmt.Sprint("Down ", s.members()), sample, got, err, sample.down(s))
	got, err = poset.Up(sample.relation(), setOf(s))
	checkSet(t, fmt.Sprint("Up ", s.members()), sample, got, err, sample.up(s))
}

func TestDownAndUp(t *testing.T) {
	for _, sample := range slices.Concat(small(), orders(5)) {
		for _, s := range subsets(len(sample)) {
			checkClosures(t, sample, s)
		}
	}
	next := random(7)
	for _, sample := range slices.Concat(others(), greatest()) {
		for _, s := range some(len(sample), next) {
			checkClosures(t, sample, s)
		}
	}
}

func TestDownAndUpExamples(t *testing.T) {
	sample := tableOf(4, [2]int{0, 1}, [2]int{1, 2}, [2]int{0, 2}, [2]int{3, 2})
	for _, c := range []struct{ s, down, up []int }{
		{nil, nil, nil},
		{[]int{1}, []int{0, 1}, []int{1, 2}},
		{[]int{3}, []int{3}, []int{2, 3}},
		{[]int{2}, []int{0, 1, 2, 3}, []int{2}},
		{[]int{0}, []int{0}, []int{0, 1, 2}},
		{[]int{0, 3}, []int{0, 3}, []int{0, 1, 2, 3}},
		{[]int{0, 1, 2, 3}, []int{0, 1, 2, 3}, []int{0, 1, 2, 3}},
	} {
		got, err := poset.Down(sample.relation(), setOf(truthsOf(4, c.s...)))
		checkSet(t, fmt.Sprint("Down ", c.s), sample, got, err, truthsOf(4, c.down...))
		got, err = poset.Up(sample.relation(), setOf(truthsOf(4, c.s...)))
		checkSet(t, fmt.Sprint("Up ", c.s), sample, got, err, truthsOf(4, c.up...))
	}
}

// withSet are the functions of an order and a set; those with a set as a result make a relation of
// one row of it.
func withSet() map[string]func(p api.Relation, s api.Set) (api.Relation, api.Errno) {
	row := func(s api.Set, err api.Errno) (api.Relation, api.Errno) {
		if s.N == 0 && len(s.W) == 0 && err != api.OK {
			return api.Relation{}, err
		}
		return api.Relation{Rows: []api.Set{s}}, err
	}
	return map[string]func(p api.Relation, s api.Set) (api.Relation, api.Errno){
		"Down":     func(p api.Relation, s api.Set) (api.Relation, api.Errno) { return row(poset.Down(p, s)) },
		"Up":       func(p api.Relation, s api.Set) (api.Relation, api.Errno) { return row(poset.Up(p, s)) },
		"Restrict": poset.Restrict,
	}
}

func TestErrorsOfSets(t *testing.T) {
	for name, f := range withSet() {
		for _, r := range notOrders() {
			n := len(r.Rows)
			sets := []api.Set{{}, setOf(make(truths, n)), setOf(newTruths(n, func(i int) bool { return true }))}
			for _, s := range append(sets, notSets(n)[:3]...) {
				got, err := f(r, s)
				checkNoRelation(t, name, r, got, err, api.ErrArg)
			}
		}
		for _, n := range []int{0, 1, 2, 3, 63, 64, 65, 127, 128, 511, 512} {
			for _, has := range []func(i, j int) bool{
				func(i, j int) bool { return false },
				func(i, j int) bool { return i < j },
			} {
				p := newTable(n, has).relation()
				for _, s := range notSets(n) {
					got, err := f(p, s)
					checkNoRelation(t, fmt.Sprint(name, s), p, got, err, api.ErrArg)
				}
			}
		}
	}
}

// P6.4

func checkLevels(t *testing.T, sample table, got []int, err api.Errno, want []int) {
	t.Helper()
	if !slices.Equal(got, want) || err != api.OK {
		t.Errorf("Levels of %v = %v, %d, want %v", sample, got, err, want)
	}
}

func TestLevels(t *testing.T) {
	for _, sample := range slices.Concat(small(), orders(5)) {
		got, err := poset.Levels(sample.relation())
		checkLevels(t, sample, got, err, sample.levels())
	}
	for i, r := range notOrders() {
		if got, err := poset.Levels(r); len(got) != 0 || err != api.ErrArg {
			t.Errorf("%d: Levels of %s = %v, %d", i, show(r), got, err)
		}
	}
}

func TestLevelsExamples(t *testing.T) {
	for _, c := range []struct {
		n     int
		pairs [][2]int
		want  []int
	}{
		{0, nil, nil},
		{1, nil, []int{0}},
		{3, nil, []int{0, 0, 0}},
		{4, [][2]int{{0, 1}, {1, 2}, {0, 2}, {3, 2}}, []int{0, 1, 2, 0}},
		{3, [][2]int{{2, 1}, {1, 0}, {2, 0}}, []int{2, 1, 0}},
		// 4 is reached by ways of one, two, and three steps.
		{6, [][2]int{{5, 4}, {3, 1}, {1, 4}, {3, 4}, {2, 0}, {0, 1}, {2, 1}, {2, 4}, {0, 4}}, []int{1, 2, 0, 0, 3, 0}},
	} {
		sample := tableOf(c.n, c.pairs...)
		got, err := poset.Levels(sample.relation())
		checkLevels(t, sample, got, err, c.want)
	}
}

// A level is 0 without a lesser element, and else one more than the greatest level of these, which
// determines all of them.
func TestLevelsOfManyElements(t *testing.T) {
	for _, sample := range slices.Concat(others(), greatest()) {
		got, err := poset.Levels(sample.relation())
		if len(got) != len(sample) || err != api.OK {
			t.Errorf("Levels of %v = %v, %d", sample, got, err)
			continue
		}
		for j := range sample {
			want := 0
			for i := range sample {
				if sample[i][j] {
					want = max(want, got[i]+1)
				}
			}
			if got[j] != want {
				t.Errorf("Levels of %v: %d has %d, not %d", sample, j, got[j], want)
			}
		}
	}
}

// P6.5

func checkRestrict(t *testing.T, sample table, s truths) {
	t.Helper()
	got, err := poset.Restrict(sample.relation(), setOf(s))
	checkRelation(t, fmt.Sprint("Restrict to ", len(s.members())), sample, got, err, sample.restricted(s))
	if !poset.Valid(got) {
		t.Errorf("a restriction of %v is no order", sample)
	}
}

func TestRestrict(t *testing.T) {
	for _, sample := range slices.Concat(small(), orders(5)) {
		for _, s := range subsets(len(sample)) {
			checkRestrict(t, sample, s)
		}
	}
	next := random(8)
	for _, sample := range others() {
		for _, s := range some(len(sample), next) {
			checkRestrict(t, sample, s)
		}
	}
	for _, sample := range greatest() {
		checkRestrict(t, sample, some(len(sample), next)[6])
		checkRestrict(t, sample, newTruths(len(sample), func(i int) bool { return true }))
		checkRestrict(t, sample, newTruths(len(sample), func(i int) bool { return i > 0 }))
		// As many members as bits of a word.
		checkRestrict(t, sample, newTruths(len(sample), func(i int) bool { return i%8 == 3 }))
	}
}

func TestRestrictExamples(t *testing.T) {
	sample := tableOf(4, [2]int{0, 1}, [2]int{1, 2}, [2]int{0, 2}, [2]int{3, 2})
	for _, c := range []struct {
		s    []int
		want [][2]int
	}{
		{nil, nil},
		{[]int{2}, nil},
		{[]int{0, 2, 3}, [][2]int{{0, 1}, {2, 1}}},
		{[]int{1, 3}, nil},
		{[]int{2, 3}, [][2]int{{1, 0}}},
		{[]int{0, 1, 2, 3}, [][2]int{{0, 1}, {0, 2}, {1, 2}, {3, 2}}},
	} {
		got, err := poset.Restrict(sample.relation(), setOf(truthsOf(4, c.s...)))
		checkRelation(t, fmt.Sprint("Restrict to ", c.s), sample, got, err, tableOf(len(c.s), c.want...))
	}
}

// P6.6

// result drops the error of a call, which has to be none.
func result[R any](t *testing.T) func(r R, err api.Errno) R {
	return func(r R, err api.Errno) R {
		t.Helper()
		if err != api.OK {
			t.Errorf("the error %d", err)
		}
		return r
	}
}

func TestOrderOfCovers(t *testing.T) {
	relations := result[api.Relation](t)
	for _, sample := range slices.Concat(samples(), orders(5)) {
		p := sample.relation()
		if !isEqual(relations(poset.From(relations(poset.Covers(p)))), p) {
			t.Errorf("%v is not the order of its covers", sample)
		}
		if !isEqual(relations(poset.From(p)), p) {
			t.Errorf("%v is not its own order", sample)
		}
	}
}

func TestCoversAreInEachRelation(t *testing.T) {
	for n := range 5 {
		for _, sample := range all(n) {
			r := sample.relation()
			p, err := poset.From(r)
			if err != api.OK {
				continue
			}
			for i, row := range result[api.Relation](t)(poset.Covers(p)).Rows {
				if !areWithin(row.W, r.Rows[i].W) {
					t.Errorf("%v does not contain the covers of its order", sample)
				}
			}
		}
	}
}

func union(a, b api.Set) api.Set {
	c := cloneSet(a)
	for k := range c.W {
		c.W[k] |= b.W[k]
	}
	return c
}

// A closed set contains with an element all lesser ones (or greater ones); the closure is the least
// one that contains a set, and that of two sets together consists of both closures.
func checkClosed(t *testing.T, p api.Relation, a, b api.Set) {
	t.Helper()
	sets := result[api.Set](t)
	for k, closure := range []func(p api.Relation, s api.Set) (api.Set, api.Errno){poset.Down, poset.Up} {
		closureA, closureB := sets(closure(p, a)), sets(closure(p, b))
		if !areWithin(a.W, closureA.W) || !areEqual(sets(closure(p, closureA)), closureA) {
			t.Errorf("%d: the closure %v of %v in %s is not closed", k, closureA, a, show(p))
		}
		if !areEqual(sets(closure(p, union(a, b))), union(closureA, closureB)) {
			t.Errorf("%d: the closure of %v and %v in %s", k, a, b, show(p))
		}
		if areEqual(closureB, b) && areWithin(a.W, b.W) && !areWithin(closureA.W, b.W) {
			t.Errorf("%d: %v contains %v and is closed in %s", k, b, a, show(p))
		}
		if areWithin(a.W, b.W) && !areWithin(closureA.W, closureB.W) {
			t.Errorf("%d: the closures of %v and %v in %s", k, a, b, show(p))
		}
	}
}

func TestClosuresAreClosed(t *testing.T) {
	for _, sample := range small() {
		p := sample.relation()
		for _, a := range subsets(len(sample)) {
			for _, b := range subsets(len(sample)) {
				checkClosed(t, p, setOf(a), setOf(b))
			}
		}
	}
	next := random(9)
	for _, sample := range slices.Concat(others(), greatest()) {
		sets := some(len(sample), next)
		for range 6 {
			checkClosed(t, sample.relation(), setOf(sets[next(len(sets))]), setOf(sets[next(len(sets))]))
		}
	}
}

// The down-set of an element contains no greater one; what is above all minimal elements is all.
func TestClosuresAndExtremes(t *testing.T) {
	sets := result[api.Set](t)
	for _, sample := range samples() {
		p := sample.relation()
		whole := setOf(newTruths(len(sample), func(i int) bool { return true }))
		if !areEqual(sets(poset.Up(p, sets(poset.Minimal(p)))), whole) || !areEqual(sets(poset.Down(p, sets(poset.Maximal(p)))), whole) {
			t.Errorf("the closures of the minimal and maximal elements of %v", sample)
		}
	}
}

func TestElementsOfOneLevel(t *testing.T) {
	for _, sample := range slices.Concat(samples(), orders(5)) {
		p := sample.relation()
		levels := result[[]int](t)(poset.Levels(p))
		covers := result[api.Relation](t)(poset.Covers(p))
		minimal := result[api.Set](t)(poset.Minimal(p))
		for j := range sample {
			isMinimal := minimal.W[j/64]>>(j%64)%2 == 1
			coversBelow := false
			for i := range sample {
				if sample[i][j] && levels[i] == levels[j] {
					t.Errorf("%v: %d and %d have one level", sample, i, j)
				}
				isCovered := covers.Rows[i].W[j/64]>>(j%64)%2 == 1
				coversBelow = coversBelow || isCovered && levels[i] == levels[j]-1
			}
			if isMinimal == coversBelow || isMinimal != (levels[j] == 0) {
				t.Errorf("%v: %d has the level %d, but covers none of the level below", sample, j, levels[j])
			}
		}
	}
}

// Memory

// call is one of the functions, as one that returns a relation: a set is its only row.
type call func(p api.Relation, s api.Set) (api.Relation, api.Errno)

func calls() []call {
	row := func(s api.Set, err api.Errno) (api.Relation, api.Errno) { return api.Relation{Rows: []api.Set{s}}, err }
	return []call{
		func(p api.Relation, s api.Set) (api.Relation, api.Errno) { return poset.From(p) },
		func(p api.Relation, s api.Set) (api.Relation, api.Errno) { return poset.Covers(p) },
		func(p api.Relation, s api.Set) (api.Relation, api.Errno) { return row(poset.Minimal(p)) },
		func(p api.Relation, s api.Set) (api.Relation, api.Errno) { return row(poset.Maximal(p)) },
		func(p api.Relation, s api.Set) (api.Relation, api.Errno) { return row(poset.Down(p, s)) },
		func(p api.Relation, s api.Set) (api.Relation, api.Errno) { return row(poset.Up(p, s)) },
		poset.Restrict,
	}
}

// padded are the same rows with room behind their ends, in which nothing may be written.
func padded(r api.Relation) api.Relation {
	rows := make([]api.Set, 0, len(r.Rows)+2)
	for _, row := range r.Rows {
		rows = append(rows, paddedSet(row))
	}
	return api.Relation{Rows: rows}
}

func paddedSet(s api.Set) api.Set {
	words := append(make([]uint64, 0, len(s.W)+2), s.W...)
	words = append(words, 77, 78)
	return api.Set{N: s.N, W: words[:len(s.W)]}
}

// whole is a relation with what is behind the ends of its rows.
func whole(r api.Relation) api.Relation {
	rows := slices.Clone(r.Rows[:cap(r.Rows)])
	for i, row := range rows {
		rows[i] = api.Set{N: row.N, W: slices.Clone(row.W[:cap(row.W)])}
	}
	return api.Relation{Rows: rows}
}

// memoryRelations are orders with nothing to be added or left out, so that a result could be an
// argument, an order all of whose rows share their memory, and relations with errors.
func memoryRelations() []api.Relation {
	row := paddedSet(api.Set{N: 70, W: make([]uint64, 2)})
	l := []api.Relation{{Rows: slices.Repeat([]api.Set{row}, 70)}}
	for _, r := range []api.Relation{
		{},
		tableOf(1).relation(),
		tableOf(3).relation(),
		tableOf(2, [2]int{1, 0}).relation(),
		tableOf(4, [2]int{0, 2}, [2]int{0, 3}, [2]int{1, 2}, [2]int{1, 3}).relation(),
		newTable(64, func(i, j int) bool { return i < j }).relation(),
		newTable(70, func(i, j int) bool { return i < 35 && j >= 35 }).relation(),
		newTable(512, func(i, j int) bool { return i < j }).relation(),
		tableOf(3, [2]int{0, 1}, [2]int{1, 2}).relation(),
		tableOf(2, [2]int{0, 1}, [2]int{1, 0}).relation(),
		tableOf(2, [2]int{0, 0}).relation(),
		{Rows: []api.Set{{N: 2, W: []uint64{2}}, {N: 2, W: []uint64{4}}}},
		{Rows: []api.Set{{N: 1, W: []uint64{0, 0}}}},
	} {
		l = append(l, padded(r))
	}
	return l
}

func memorySets(n int) []api.Set {
	l := []api.Set{
		paddedSet(setOf(make(truths, n))),
		paddedSet(setOf(newTruths(n, func(i int) bool { return true }))),
		paddedSet(setOf(newTruths(n, func(i int) bool { return i < n/2 }))),
		paddedSet(setOf(newTruths(n, func(i int) bool { return i >= n/2 }))),
	}
	for _, s := range notSets(n) {
		l = append(l, paddedSet(s))
	}
	return l
}

// spoil changes all words of a result, and those that are behind its ends.
func spoil(r api.Relation) {
	for i := range r.Rows {
		row := r.Rows[i].W
		for k := range row[:cap(row)] {
			row[:cap(row)][k] ^= math.MaxUint64
		}
	}
	for i := range r.Rows[:cap(r.Rows)] {
		r.Rows[:cap(r.Rows)][i] = api.Set{N: -1}
	}
}

func TestArgumentsStayAndShareNoMemory(t *testing.T) {
	for i, p := range memoryRelations() {
		sets := memorySets(len(p.Rows))
		if len(p.Rows) > 100 {
			sets = sets[:2]
		}
		for k, s := range sets {
			beforeP, beforeS := whole(p), whole(api.Relation{Rows: []api.Set{s}})
			isUnchanged := func() bool {
				return isEqual(whole(p), beforeP) && isEqual(whole(api.Relation{Rows: []api.Set{s}}), beforeS)
			}
			for c, f := range calls() {
				first, err := f(p, s)
				if !isUnchanged() {
					t.Fatalf("the call %d changed an argument: %d, %d", c, i, k)
				}
				kept := clone(first)
				spoil(first)
				if !isUnchanged() {
					t.Fatalf("the result of the call %d shares memory with an argument: %d, %d", c, i, k)
				}
				if second, again := f(p, s); !isEqual(second, kept) || again != err {
					t.Errorf("the call %d has two results: %d, %d", c, i, k)
				}
			}
			levels, err := poset.Levels(p)
			kept := slices.Clone(levels)
			clear(levels)
			if second, again := poset.Levels(p); !slices.Equal(second, kept) || again != err {
				t.Errorf("Levels has two results: %d", i)
			}
			poset.Valid(p)
			poset.Less(p, 0, k)
			if !isUnchanged() {
				t.Errorf("an argument was changed: %d, %d", i, k)
			}
		}
	}
}

// checkRows changes row by row, and finds out whether another one is changed by that.
func checkRows(t *testing.T, r api.Relation) {
	t.Helper()
	for i := range r.Rows {
		before := clone(r)
		row := r.Rows[i].W
		for k := range row[:cap(row)] {
			row[:cap(row)][k] ^= math.MaxUint64
		}
		for k := range r.Rows {
			if k != i && !slices.Equal(r.Rows[k].W, before.Rows[k].W) {
				t.Fatalf("the rows %d and %d of a result share memory", i, k)
			}
		}
	}
}

func TestRowsShareNoMemory(t *testing.T) {
	for _, p := range memoryRelations() {
		if len(p.Rows) > 100 {
			continue
		}
		for _, s := range memorySets(len(p.Rows)) {
			for _, f := range calls() {
				got, _ := f(p, s)
				checkRows(t, got)
			}
		}
	}
}
