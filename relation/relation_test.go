package relation_test

import (
	"math"
	"slices"
	"testing"

	"antecede/api"
	"antecede/relation"
)

// table is a relation as a table of truths: table[i][j] tells whether i is related to j. The tests
// compute with tables by the definitions.
type table [][]bool

func newTable(n int, has func(i, j int) bool) table {
	t := make(table, n)
	for i := range t {
		t[i] = make([]bool, n)
		for j := range t[i] {
			t[i][j] = has(i, j)
		}
	}
	return t
}

func tableOf(n int, pairs ...[2]int) table {
	return newTable(n, func(i, j int) bool { return slices.Contains(pairs, [2]int{i, j}) })
}

func (t table) pairs() [][2]int {
	var l [][2]int
	for i := range t {
		for j := range t {
			if t[i][j] {
				l = append(l, [2]int{i, j})
			}
		}
	}
	return l
}

// relation has rows of its own, which are made bit by bit.
func (t table) relation() api.Relation {
	r := api.Relation{Rows: make([]api.Set, len(t))}
	for i := range t {
		words := make([]uint64, (len(t)+63)/64)
		for j := range t {
			if t[i][j] {
				words[j/64] |= uint64(1) << (j % 64)
			}
		}
		r.Rows[i] = api.Set{N: len(t), W: words}
	}
	return r
}

func (t table) isWithin(other table) bool {
	for _, pair := range t.pairs() {
		if !other[pair[0]][pair[1]] {
			return false
		}
	}
	return true
}

func (t table) isTransitive() bool {
	for i := range t {
		for k := range t {
			for j := range t {
				if t[i][k] && t[k][j] && !t[i][j] {
					return false
				}
			}
		}
	}
	return true
}

// reached returns which numbers paths from i lead to, for each i.
func (t table) reached() table {
	result := newTable(len(t), func(i, j int) bool { return false })
	for i := range t {
		var visit func(k int)
		visit = func(k int) {
			for j := range t {
				if t[k][j] && !result[i][j] {
					result[i][j] = true
					visit(j)
				}
			}
		}
		visit(i)
	}
	return result
}

func (t table) isAcyclic() bool {
	reached := t.reached()
	for i := range t {
		if reached[i][i] {
			return false
		}
	}
	return true
}

// reduced leaves out each pair between whose numbers a third one is.
func (t table) reduced() table {
	reached := t.reached()
	return newTable(len(t), func(i, j int) bool {
		for k := range t {
			if t[i][k] && reached[k][j] {
				return false
			}
		}
		return t[i][j]
	})
}

func (t table) inverse() table {
	return newTable(len(t), func(i, j int) bool { return t[j][i] })
}

func (t table) compose(other table) table {
	return newTable(len(t), func(i, j int) bool {
		for k := range t {
			if t[i][k] && other[k][j] {
				return true
			}
		}
		return false
	})
}

// random returns numbers below n of a fixed sequence (SplitMix64).
func random(seed uint64) func(n int) int {
	return func(n int) int {
		seed += 0x9e3779b97f4a7c15
		x := seed
		x = (x ^ x>>30) * 0xbf58476d1ce4e5b9
		x = (x ^ x>>27) * 0x94d049bb133111eb
		return int((x ^ x>>31) % uint64(n))
	}
}

// shuffled returns the numbers from 0 to n - 1 in some order.
func shuffled(n int, next func(n int) int) []int {
	l := make([]int, n)
	for i := range l {
		l[i] = i
		k := next(i + 1)
		l[i], l[k] = l[k], l[i]
	}
	return l
}

// all are the tables of all relations on n numbers.
func all(n int) []table {
	var l []table
	for code := range 1 << (n * n) {
		l = append(l, newTable(n, func(i, j int) bool { return code>>(i*n+j)%2 == 1 }))
	}
	return l
}

// others are tables of some greater sizes with few or many pairs, with and without cycles.
func others() []table {
	next := random(3)
	var l []table
	for _, n := range []int{4, 5, 6, 7, 9, 63, 64, 65, 70} {
		for _, share := range []int{1, 2, 5, n, 3 * n} {
			place := shuffled(n, next)
			l = append(l, newTable(n, func(i, j int) bool { return next(share+1) == 0 }))
			l = append(l, newTable(n, func(i, j int) bool { return place[i] < place[j] && next(share) == 0 }))
		}
	}
	return l
}

// greatest are tables with as many numbers as a relation may have.
func greatest() []table {
	const n = api.MaxSet
	next := random(4)
	place := shuffled(n, next)
	return []table{
		newTable(n, func(i, j int) bool { return false }),
		newTable(n, func(i, j int) bool { return true }),
		newTable(n, func(i, j int) bool { return i == j+1 }),
		newTable(n, func(i, j int) bool { return j == (i+1)%n }),
		newTable(n, func(i, j int) bool { return place[i] < place[j] }),
		newTable(n, func(i, j int) bool { return place[i] < place[j] && next(n) == 0 }),
	}
}

func small() []table {
	return slices.Concat(all(0), all(1), all(2), all(3))
}

func samples() []table {
	return slices.Concat(small(), others(), greatest())
}

// invalid are relations that are not valid.
func invalid() []api.Relation {
	set := func(n int, words ...uint64) api.Set { return api.Set{N: n, W: words} }
	rows := func(l ...api.Set) api.Relation { return api.Relation{Rows: l} }
	equal := func(count int, s api.Set) api.Relation { return api.Relation{Rows: slices.Repeat([]api.Set{s}, count)} }
	return []api.Relation{
		rows(set(0)),
		rows(set(-1)),
		rows(set(2, 0)),
		rows(set(1)),
		rows(set(1, 2)),
		rows(set(1, 0, 0)),
		rows(set(64, 0)),
		rows(set(1<<32, 1)),
		rows(set(math.MinInt)),
		rows(set(math.MaxInt, 1)),
		rows(set(2, 0), set(1, 0)),
		rows(set(1, 0), set(2, 0)),
		rows(set(2, 0), set(3, 0)),
		rows(set(2, 0), set(0)),
		rows(set(2, 0), set(2)),
		rows(set(2, 0), set(2, 4)),
		rows(set(2, 4), set(2, 0)),
		rows(set(2, 0), set(2, 1<<63)),
		rows(set(2, 0), set(2, 0, 0)),
		rows(set(3, 1), set(3, 2)),
		rows(set(3, 2), set(3, 4), set(3, 9)),
		// A cycle, and a row that is not valid.
		rows(set(2, 3), set(2, 7)),
		rows(set(3, 2), set(3, 1), set(2, 0)),
		equal(64, set(64)),
		equal(65, set(65, 0)),
		equal(65, set(65, 0, 2)),
		equal(65, set(64, 0)),
		equal(511, set(512, make([]uint64, 8)...)),
		equal(512, set(511, make([]uint64, 8)...)),
		equal(512, set(512, make([]uint64, 9)...)),
		equal(513, set(512, make([]uint64, 8)...)),
		equal(513, set(513, make([]uint64, 9)...)),
		equal(513, set(0)),
		equal(576, set(576, make([]uint64, 9)...)),
		equal(1000, set(1000, make([]uint64, 16)...)),
		equal(100000, set(100000)),
	}
}

func clone(r api.Relation) api.Relation {
	rows := slices.Clone(r.Rows)
	for i := range rows {
		rows[i].W = slices.Clone(rows[i].W)
	}
	return api.Relation{Rows: rows}
}

func isEqual(a, b api.Relation) bool {
	return slices.EqualFunc(a.Rows, b.Rows, func(x, y api.Set) bool { return x.N == y.N && slices.Equal(x.W, y.W) })
}

func checkRelation(t *testing.T, what string, got api.Relation, err api.Errno, want table) {
	t.Helper()
	if !isEqual(got, want.relation()) || err != api.OK {
		t.Errorf("%s = %v, %d, want the pairs %v of %d numbers", what, got, err, want.pairs(), len(want))
	}
}

func checkNoRelation(t *testing.T, what string, got api.Relation, err, want api.Errno) {
	t.Helper()
	if len(got.Rows) != 0 || err != want {
		t.Errorf("%s = %v, %d, want the error %d", what, got, err, want)
	}
}

func checkList(t *testing.T, what string, got []int, err api.Errno, want []int, wantErr api.Errno) {
	t.Helper()
	if !slices.Equal(got, want) || err != wantErr {
		t.Errorf("%s = %v, %d, want %v, %d", what, got, err, want, wantErr)
	}
}

// P3.1

func TestValid(t *testing.T) {
	for _, sample := range samples() {
		if r := sample.relation(); !relation.Valid(r) {
			t.Errorf("%v is valid", r)
		}
	}
	if !relation.Valid(api.Relation{}) || !relation.Valid(api.Relation{Rows: []api.Set{}}) {
		t.Error("the relation without rows is valid")
	}
	for i, r := range invalid() {
		if relation.Valid(r) {
			t.Errorf("%d: %d rows are not valid", i, len(r.Rows))
		}
	}
}

// Each single row decides: one whose N is another, one with a bit too many, one with other words.
func TestValidRowByRow(t *testing.T) {
	for _, n := range []int{1, 2, 3, 63, 64, 65, 127, 511, 512} {
		good := newTable(n, func(i, j int) bool { return (i+j)%3 == 0 }).relation()
		for i := range n {
			for k, change := range []func(s *api.Set){
				func(s *api.Set) { s.N-- },
				func(s *api.Set) { s.N++ },
				func(s *api.Set) { s.N = -s.N },
				func(s *api.Set) { *s = api.Set{} },
				func(s *api.Set) { s.W = s.W[1:] },
				func(s *api.Set) { s.W = append(s.W, 0) },
				func(s *api.Set) { s.W = nil },
				func(s *api.Set) {
					if n%64 == 0 {
						s.W = append(s.W, 1)
					} else {
						s.W[n/64] |= uint64(1) << (n % 64)
					}
				},
			} {
				r := api.Relation{Rows: slices.Clone(good.Rows)}
				r.Rows[i].W = slices.Clone(r.Rows[i].W)
				change(&r.Rows[i])
				if relation.Valid(r) {
					t.Errorf("the change %d of the row %d of %d", k, i, n)
				}
			}
		}
	}
}

// Valid for each number of rows, up to the limit.
func TestValidSizes(t *testing.T) {
	for n := range api.MaxSet + 70 {
		row := api.Set{N: n, W: make([]uint64, (n+63)/64)}
		if got := relation.Valid(api.Relation{Rows: slices.Repeat([]api.Set{row}, n)}); got != (n <= api.MaxSet) {
			t.Errorf("Valid of %d rows = %t", n, got)
		}
	}
}

func TestMake(t *testing.T) {
	for _, sample := range samples() {
		pairs := sample.pairs()
		descending := slices.Clone(pairs)
		slices.Reverse(descending)
		for _, l := range [][][2]int{pairs, descending, slices.Concat(pairs, descending)} {
			got, err := relation.Make(len(sample), l)
			checkRelation(t, "Make", got, err, sample)
		}
	}
}

func TestMakeExamples(t *testing.T) {
	for _, c := range []struct {
		n     int
		pairs [][2]int
		rows  []uint64
	}{
		{0, nil, nil},
		{0, [][2]int{}, nil},
		{1, nil, []uint64{0}},
		{1, [][2]int{{0, 0}}, []uint64{1}},
		{3, [][2]int{{0, 1}, {1, 2}, {0, 2}}, []uint64{6, 4, 0}},
		{3, [][2]int{{0, 1}, {1, 2}, {0, 2}, {2, 1}}, []uint64{6, 4, 2}},
		{2, [][2]int{{1, 0}, {1, 0}, {1, 0}}, []uint64{0, 1}},
		{2, slices.Repeat([][2]int{{1, 1}, {0, 1}}, 2000), []uint64{2, 2}},
	} {
		want := api.Relation{}
		for _, word := range c.rows {
			want.Rows = append(want.Rows, api.Set{N: c.n, W: []uint64{word}})
		}
		if got, err := relation.Make(c.n, c.pairs); !isEqual(got, want) || err != api.OK {
			t.Errorf("Make(%d, %v) = %v, %d", c.n, c.pairs, got, err)
		}
	}
	got, err := relation.Make(512, [][2]int{{511, 0}, {0, 511}, {64, 64}})
	checkRelation(t, "Make", got, err, tableOf(512, [2]int{0, 511}, [2]int{64, 64}, [2]int{511, 0}))
}

func TestMakeOutOfRange(t *testing.T) {
	for _, n := range []int{-1, -64, 513, 576, 1 << 32, math.MaxInt, math.MinInt} {
		for _, pairs := range [][][2]int{nil, {{0, 0}}, {{n, n}}, {{n - 1, 0}}, {{0, n - 1}}} {
			got, err := relation.Make(n, pairs)
			checkNoRelation(t, "Make", got, err, api.ErrRange)
		}
	}
	for _, n := range []int{0, 1, 2, 3, 63, 64, 65, 511, 512} {
		good := newTable(n, func(i, j int) bool { return j == i+1 }).pairs()
		for _, i := range []int{-1, -64, n, n + 1, n + 63, 512, 513, 1 << 32, math.MaxInt, math.MinInt} {
			for _, pair := range [][2]int{{i, 0}, {0, i}, {i, i}, {max(n-1, 0), i}, {i, max(n-1, 0)}} {
				if i < n && i >= 0 {
					continue
				}
				for _, pairs := range [][][2]int{{pair}, append([][2]int{pair}, good...), append(slices.Clone(good), pair)} {
					got, err := relation.Make(n, pairs)
					checkNoRelation(t, "Make", got, err, api.ErrRange)
				}
			}
		}
	}
}

func TestPairs(t *testing.T) {
	for _, sample := range samples() {
		got, err := relation.Pairs(sample.relation())
		if want := sample.pairs(); !slices.Equal(got, want) || err != api.OK {
			t.Errorf("Pairs = %v, %d, want %v", got, err, want)
		}
	}
	r, _ := relation.Make(70, [][2]int{{65, 3}, {3, 66}, {3, 7}, {65, 3}, {64, 64}, {0, 69}})
	if got, err := relation.Pairs(r); !slices.Equal(got, [][2]int{{0, 69}, {3, 7}, {3, 66}, {64, 64}, {65, 3}}) || err != api.OK {
		t.Error(got, err)
	}
	for i, r := range invalid() {
		if got, err := relation.Pairs(r); len(got) != 0 || err != api.ErrArg {
			t.Errorf("%d: Pairs = %v, %d", i, got, err)
		}
	}
}

// P3.2

func TestClosure(t *testing.T) {
	for _, sample := range slices.Concat(samples(), all(4)) {
		got, err := relation.Closure(sample.relation())
		checkRelation(t, "Closure", got, err, sample.reached())
	}
	for _, r := range invalid() {
		got, err := relation.Closure(r)
		checkNoRelation(t, "Closure", got, err, api.ErrArg)
	}
}

func TestClosureExamples(t *testing.T) {
	for _, c := range []struct {
		n           int
		pairs, want [][2]int
	}{
		{3, [][2]int{{0, 1}, {1, 2}, {0, 2}}, [][2]int{{0, 1}, {0, 2}, {1, 2}}},
		{3, [][2]int{{0, 1}, {1, 2}}, [][2]int{{0, 1}, {0, 2}, {1, 2}}},
		{2, [][2]int{{0, 0}}, [][2]int{{0, 0}}},
		{2, [][2]int{{0, 1}, {1, 0}}, [][2]int{{0, 0}, {0, 1}, {1, 0}, {1, 1}}},
		// The intermediate numbers come in no ascending or descending order.
		{5, [][2]int{{0, 3}, {3, 1}, {1, 4}, {4, 2}}, [][2]int{{0, 1}, {0, 2}, {0, 3}, {0, 4}, {1, 2}, {1, 4}, {3, 1}, {3, 2}, {3, 4}, {4, 2}}},
	} {
		got, err := relation.Closure(tableOf(c.n, c.pairs...).relation())
		checkRelation(t, "Closure", got, err, tableOf(c.n, c.want...))
	}
}

func TestReduction(t *testing.T) {
	for _, sample := range slices.Concat(samples(), all(4)) {
		got, err := relation.Reduction(sample.relation())
		if sample.isAcyclic() {
			checkRelation(t, "Reduction", got, err, sample.reduced())
		} else {
			checkNoRelation(t, "Reduction", got, err, api.ErrCycle)
		}
	}
	// ErrArg comes first, also for relations with a cycle.
	for _, r := range invalid() {
		got, err := relation.Reduction(r)
		checkNoRelation(t, "Reduction", got, err, api.ErrArg)
	}
}

func TestReductionExamples(t *testing.T) {
	for _, c := range []struct {
		n           int
		pairs, want [][2]int
	}{
		{3, [][2]int{{0, 1}, {1, 2}, {0, 2}}, [][2]int{{0, 1}, {1, 2}}},
		{3, [][2]int{{0, 1}, {1, 2}}, [][2]int{{0, 1}, {1, 2}}},
		// The pair (0, 3) has a longer way, although no number is between its parts directly.
		{4, [][2]int{{0, 1}, {1, 2}, {2, 3}, {0, 3}}, [][2]int{{0, 1}, {1, 2}, {2, 3}}},
		// Of two ways with as many steps each, both stay.
		{4, [][2]int{{0, 1}, {0, 2}, {1, 3}, {2, 3}, {0, 3}}, [][2]int{{0, 1}, {0, 2}, {1, 3}, {2, 3}}},
	} {
		got, err := relation.Reduction(tableOf(c.n, c.pairs...).relation())
		checkRelation(t, "Reduction", got, err, tableOf(c.n, c.want...))
	}
	for _, pairs := range [][][2]int{{{1, 1}}, {{0, 1}, {1, 0}}, {{0, 1}, {1, 2}, {0, 2}, {2, 1}}} {
		got, err := relation.Reduction(tableOf(3, pairs...).relation())
		checkNoRelation(t, "Reduction", got, err, api.ErrCycle)
	}
}

// P3.3

func TestInverse(t *testing.T) {
	for _, sample := range samples() {
		got, err := relation.Inverse(sample.relation())
		checkRelation(t, "Inverse", got, err, sample.inverse())
	}
	for _, r := range invalid() {
		got, err := relation.Inverse(r)
		checkNoRelation(t, "Inverse", got, err, api.ErrArg)
	}
}

func checkComposition(t *testing.T, a, b table) {
	t.Helper()
	got, err := relation.Compose(a.relation(), b.relation())
	checkRelation(t, "Compose", got, err, a.compose(b))
}

func TestCompose(t *testing.T) {
	for n := range 4 {
		for _, a := range all(n) {
			// Of 3 numbers there are many pairs of relations; some will do.
			for k, b := range all(n) {
				if n < 3 || k%7 == 0 {
					checkComposition(t, a, b)
				}
			}
		}
	}
	for _, l := range [][]table{others(), greatest()} {
		for i, a := range l {
			for k, b := range l {
				// Tables with the most numbers are composed with few others, as this takes long.
				if len(a) == len(b) && (len(a) < 100 || k == i || k == 2) {
					checkComposition(t, a, b)
				}
			}
		}
	}
	a, b := tableOf(3, [2]int{0, 1}, [2]int{2, 2}), tableOf(3, [2]int{1, 0}, [2]int{1, 2}, [2]int{0, 1})
	got, err := relation.Compose(a.relation(), b.relation())
	checkRelation(t, "Compose", got, err, tableOf(3, [2]int{0, 0}, [2]int{0, 2}))
	got, err = relation.Compose(b.relation(), a.relation())
	checkRelation(t, "Compose", got, err, tableOf(3, [2]int{1, 1}, [2]int{1, 2}))
}

func TestComposeErrors(t *testing.T) {
	sizes := []int{0, 1, 2, 63, 64, 65, 128, 511, 512}
	for _, m := range sizes {
		for _, n := range sizes {
			if m == n {
				continue
			}
			for _, related := range []bool{false, true} {
				has := func(i, j int) bool { return related }
				got, err := relation.Compose(newTable(m, has).relation(), newTable(n, has).relation())
				checkNoRelation(t, "Compose", got, err, api.ErrArg)
			}
		}
	}
	for _, r := range invalid() {
		valid := newTable(min(len(r.Rows), api.MaxSet), func(i, j int) bool { return true }).relation()
		for _, pair := range [][2]api.Relation{{r, r}, {r, valid}, {valid, r}, {r, {}}, {{}, r}} {
			got, err := relation.Compose(pair[0], pair[1])
			checkNoRelation(t, "Compose", got, err, api.ErrArg)
		}
	}
}

// P3.4

func TestAcyclic(t *testing.T) {
	for _, sample := range slices.Concat(samples(), all(4)) {
		if got := relation.Acyclic(sample.relation()); got != sample.isAcyclic() {
			t.Errorf("Acyclic of %v = %t", sample.pairs(), got)
		}
	}
	for i, r := range invalid() {
		if relation.Acyclic(r) {
			t.Errorf("%d: Acyclic of a relation that is not valid", i)
		}
	}
	if !relation.Acyclic(api.Relation{}) {
		t.Error("the relation without rows is acyclic")
	}
}

// permutations are all orders of the numbers from 0 to n - 1, ascending.
func permutations(n int) [][]int {
	var l [][]int
	var extend func(order []int)
	extend = func(order []int) {
		if len(order) == n {
			l = append(l, slices.Clone(order))
		}
		for i := range n {
			if !slices.Contains(order, i) {
				extend(append(order, i))
			}
		}
	}
	extend(nil)
	return l
}

func (t table) isOrder(l []int) bool {
	for k, j := range l {
		for _, i := range l[k:] {
			if t[i][j] {
				return false
			}
		}
	}
	return true
}

func TestOrder(t *testing.T) {
	for n := range 5 {
		orders := permutations(n)
		for _, sample := range all(n) {
			got, err := relation.Order(sample.relation())
			if k := slices.IndexFunc(orders, sample.isOrder); k >= 0 {
				checkList(t, "Order", got, err, orders[k], api.OK)
			} else {
				checkList(t, "Order", got, err, nil, api.ErrCycle)
			}
		}
	}
	for _, r := range invalid() {
		got, err := relation.Order(r)
		checkList(t, "Order", got, err, nil, api.ErrArg)
	}
}

// leastOrder takes the least number before which nothing that was not taken has to stand.
func (t table) leastOrder() []int {
	taken := make([]bool, len(t))
	var l []int
	for range t {
		for j := range t {
			isFree := !taken[j]
			for i := range t {
				isFree = isFree && (taken[i] || !t[i][j])
			}
			if isFree {
				taken[j] = true
				l = append(l, j)
				break
			}
		}
	}
	return l
}

func TestOrderOfManyNumbers(t *testing.T) {
	for _, sample := range slices.Concat(others(), greatest()) {
		got, err := relation.Order(sample.relation())
		if sample.isAcyclic() {
			checkList(t, "Order", got, err, sample.leastOrder(), api.OK)
		} else {
			checkList(t, "Order", got, err, nil, api.ErrCycle)
		}
	}
}

func TestOrderExamples(t *testing.T) {
	for _, c := range []struct {
		n     int
		pairs [][2]int
		want  []int
		err   api.Errno
	}{
		{0, nil, nil, api.OK},
		{1, nil, []int{0}, api.OK},
		{1, [][2]int{{0, 0}}, nil, api.ErrCycle},
		{3, nil, []int{0, 1, 2}, api.OK},
		{3, [][2]int{{0, 1}, {1, 2}, {0, 2}}, []int{0, 1, 2}, api.OK},
		{3, [][2]int{{0, 1}, {1, 2}, {0, 2}, {2, 1}}, nil, api.ErrCycle},
		{3, [][2]int{{2, 1}, {1, 0}}, []int{2, 1, 0}, api.OK},
		{3, [][2]int{{2, 0}}, []int{1, 2, 0}, api.OK},
		// A number that becomes free goes before greater ones that have been free for longer.
		{5, [][2]int{{1, 0}}, []int{1, 0, 2, 3, 4}, api.OK},
		{5, [][2]int{{2, 0}, {1, 3}}, []int{1, 2, 0, 3, 4}, api.OK},
		// The levels of numbers decide nothing.
		{4, [][2]int{{3, 0}, {1, 2}}, []int{1, 2, 3, 0}, api.OK},
		// The numbers before the cycle could be ordered.
		{4, [][2]int{{0, 1}, {1, 2}, {2, 3}, {3, 2}}, nil, api.ErrCycle},
	} {
		got, err := relation.Order(tableOf(c.n, c.pairs...).relation())
		checkList(t, "Order", got, err, c.want, c.err)
	}
}

// leastCycle chooses by the definition among all cycles.
func (t table) leastCycle() []int {
	var least []int
	var extend func(cycle []int)
	extend = func(cycle []int) {
		last := cycle[len(cycle)-1]
		if t[last][cycle[0]] && (least == nil || len(cycle) < len(least)) {
			least = slices.Clone(cycle)
		}
		for j := range t {
			if t[last][j] && !slices.Contains(cycle, j) {
				extend(append(cycle, j))
			}
		}
	}
	// Cycles with the same number of elements are found in ascending order.
	for i := range t {
		if extend([]int{i}); least != nil {
			break
		}
	}
	return least
}

func checkCycle(t *testing.T, sample table, want []int) {
	t.Helper()
	got, err := relation.Cycle(sample.relation())
	if want == nil {
		checkList(t, "Cycle", got, err, nil, api.ErrNone)
	} else {
		checkList(t, "Cycle", got, err, want, api.OK)
	}
}

func TestCycle(t *testing.T) {
	for n := range 5 {
		for _, sample := range all(n) {
			checkCycle(t, sample, sample.leastCycle())
		}
	}
	for _, sample := range others() {
		if len(sample) < 10 {
			checkCycle(t, sample, sample.leastCycle())
		}
	}
	next := random(5)
	for k := range 1000 {
		n := 5 + k%3
		sample := newTable(n, func(i, j int) bool { return i != j && next(n) < 2 })
		checkCycle(t, sample, sample.leastCycle())
	}
	for _, r := range invalid() {
		got, err := relation.Cycle(r)
		checkList(t, "Cycle", got, err, nil, api.ErrArg)
	}
}

func TestCycleExamples(t *testing.T) {
	for _, c := range []struct {
		n     int
		pairs [][2]int
		want  []int
	}{
		{0, nil, nil},
		{1, nil, nil},
		{1, [][2]int{{0, 0}}, []int{0}},
		{3, [][2]int{{0, 1}, {1, 2}, {0, 2}}, nil},
		{3, [][2]int{{0, 1}, {1, 2}, {0, 2}, {2, 1}}, []int{1, 2}},
		{3, [][2]int{{0, 1}, {1, 0}, {1, 1}}, []int{0, 1}},
		{3, [][2]int{{0, 1}, {1, 0}, {0, 0}}, []int{0}},
		// The least number decides, not the fewest elements.
		{4, [][2]int{{0, 3}, {3, 2}, {2, 1}, {1, 0}, {1, 1}, {2, 3}}, []int{0, 3, 2, 1}},
		// The fewest elements decide before the least order.
		{4, [][2]int{{0, 1}, {1, 2}, {2, 0}, {0, 3}, {3, 0}}, []int{0, 3}},
		// Each element is the least one that still leads back in time.
		{6, [][2]int{{0, 1}, {1, 2}, {2, 3}, {3, 0}, {0, 5}, {5, 4}, {4, 0}, {0, 4}, {4, 5}, {5, 0}}, []int{0, 4}},
		{6, [][2]int{{0, 2}, {2, 4}, {4, 0}, {0, 3}, {3, 1}, {1, 0}, {2, 5}, {5, 0}}, []int{0, 2, 4}},
		{6, [][2]int{{0, 1}, {1, 1}, {0, 2}, {2, 5}, {2, 3}, {5, 0}, {3, 4}, {4, 0}}, []int{0, 2, 5}},
		// 0 leads into a cycle, but is in none.
		{4, [][2]int{{0, 3}, {3, 1}, {1, 3}}, []int{1, 3}},
	} {
		checkCycle(t, tableOf(c.n, c.pairs...), c.want)
	}
}

func TestCycleOfManyNumbers(t *testing.T) {
	const n = api.MaxSet
	next := random(6)
	ring := shuffled(n, next)
	start := slices.Index(ring, 0)
	ring = slices.Concat(ring[start:], ring[:start])
	place := make([]int, n)
	for k, i := range ring {
		place[i] = k
	}
	checkCycle(t, newTable(n, func(i, j int) bool { return place[j] == (place[i]+1)%n }), ring)
	// All pairs backward do not make the ring shorter but at 0, from which only one number leads on.
	checkCycle(t, newTable(n, func(i, j int) bool {
		return place[j] == place[i]+1 || place[i] == n-1 && j == 0 || 0 < place[j] && place[j] < place[i]
	}), ring)
	checkCycle(t, newTable(n, func(i, j int) bool { return true }), []int{0})
	checkCycle(t, newTable(n, func(i, j int) bool { return i != j }), []int{0, 1})
	checkCycle(t, newTable(n, func(i, j int) bool { return i < j || i == n-1 && j == n-2 }), []int{n - 2, n - 1})
	checkCycle(t, newTable(n, func(i, j int) bool { return i < j || i == n-1 && j == 0 }), []int{0, n - 1})
	checkCycle(t, newTable(n, func(i, j int) bool { return i < j }), nil)
	checkCycle(t, newTable(n, func(i, j int) bool { return i == j && i >= 100 }), []int{100})
}

// P3.5

func ok[R any](t *testing.T, result R, err api.Errno) R {
	t.Helper()
	if err != api.OK {
		t.Errorf("the error %d", err)
	}
	return result
}

func compose(t *testing.T, a, b api.Relation) api.Relation {
	t.Helper()
	result, err := relation.Compose(a, b)
	return ok(t, result, err)
}

func closure(t *testing.T, r api.Relation) api.Relation {
	t.Helper()
	result, err := relation.Closure(r)
	return ok(t, result, err)
}

func inverse(t *testing.T, r api.Relation) api.Relation {
	t.Helper()
	result, err := relation.Inverse(r)
	return ok(t, result, err)
}

// tableFrom reads a relation by its pairs.
func tableFrom(t *testing.T, r api.Relation) table {
	t.Helper()
	pairs, err := relation.Pairs(r)
	has := make(map[[2]int]bool)
	for _, pair := range ok(t, pairs, err) {
		has[pair] = true
	}
	return newTable(len(r.Rows), func(i, j int) bool { return has[[2]int{i, j}] })
}

func TestClosureIsLeast(t *testing.T) {
	for n := range 4 {
		for _, a := range all(n) {
			got := tableFrom(t, closure(t, a.relation()))
			if !got.isTransitive() || !a.isWithin(got) {
				t.Errorf("%v has the closure %v", a.pairs(), got.pairs())
			}
			for _, b := range all(n) {
				if b.isTransitive() && a.isWithin(b) && !got.isWithin(b) {
					t.Errorf("%v is less than the closure of %v", b.pairs(), a.pairs())
				}
			}
		}
	}
}

func TestReductionIsLeast(t *testing.T) {
	for n := range 4 {
		for _, a := range all(n) {
			result, err := relation.Reduction(a.relation())
			if err == api.ErrCycle {
				continue
			}
			want := closure(t, a.relation())
			got := tableFrom(t, ok(t, result, err))
			if !isEqual(closure(t, result), want) {
				t.Errorf("the reduction %v of %v has another closure", got.pairs(), a.pairs())
			}
			for _, b := range all(n) {
				if isEqual(closure(t, b.relation()), want) && !got.isWithin(b) {
					t.Errorf("%v has the closure of %v, but not its reduction", b.pairs(), a.pairs())
				}
			}
		}
	}
}

func checkLaws(t *testing.T, a, b, c api.Relation) {
	t.Helper()
	if !isEqual(compose(t, compose(t, a, b), c), compose(t, a, compose(t, b, c))) {
		t.Errorf("the composition of %v, %v, %v depends on parentheses", a, b, c)
	}
	if !isEqual(inverse(t, compose(t, a, b)), compose(t, inverse(t, b), inverse(t, a))) {
		t.Errorf("the inverse of the composition of %v and %v", a, b)
	}
	if !isEqual(inverse(t, inverse(t, a)), a) {
		t.Errorf("the inverse of the inverse of %v", a)
	}
}

func TestLawsOfComposition(t *testing.T) {
	for n := range 3 {
		for _, a := range all(n) {
			for _, b := range all(n) {
				for _, c := range all(n) {
					checkLaws(t, a.relation(), b.relation(), c.relation())
				}
			}
		}
	}
	l := slices.Concat(all(3), others())
	next := random(7)
	for range 2000 {
		a := l[next(len(l))]
		k := next(len(l))
		for len(l[k]) != len(a) {
			k = (k + 1) % len(l)
		}
		checkLaws(t, a.relation(), l[k].relation(), a.inverse().relation())
	}
}

func TestEitherOrderOrCycle(t *testing.T) {
	for _, sample := range slices.Concat(samples(), all(4)) {
		r := sample.relation()
		_, orderErr := relation.Order(r)
		cycle, cycleErr := relation.Cycle(r)
		isAcyclic := relation.Acyclic(r)
		switch {
		case orderErr == api.OK && cycleErr == api.ErrNone && isAcyclic:
		case orderErr == api.ErrCycle && cycleErr == api.OK && !isAcyclic && len(cycle) > 0:
		default:
			t.Errorf("%v: the errors %d, %d", sample.pairs(), orderErr, cycleErr)
		}
		for k, i := range cycle {
			if !sample[i][cycle[(k+1)%len(cycle)]] || slices.Contains(cycle[:k], i) {
				t.Errorf("%v is no cycle of %v", cycle, sample.pairs())
			}
		}
	}
}

// Memory

// call is one of the functions that return a relation.
type call func(a, b api.Relation) (api.Relation, api.Errno)

func calls() []call {
	return []call{
		func(a, b api.Relation) (api.Relation, api.Errno) { return relation.Closure(a) },
		func(a, b api.Relation) (api.Relation, api.Errno) { return relation.Reduction(a) },
		func(a, b api.Relation) (api.Relation, api.Errno) { return relation.Inverse(a) },
		relation.Compose,
	}
}

// shared is a relation all of whose rows share their memory, with room behind it.
func shared(n int, word uint64) api.Relation {
	words := make([]uint64, (n+63)/64, 20)
	if n > 0 {
		words[0] = word
	}
	return api.Relation{Rows: slices.Repeat([]api.Set{{N: n, W: words}}, n)}
}

// memorySamples have nothing to be added or left out, so that a result could be an argument.
func memorySamples() []api.Relation {
	return []api.Relation{
		{},
		tableOf(1).relation(),
		tableOf(3, [2]int{0, 1}, [2]int{1, 2}, [2]int{0, 2}).relation(),
		tableOf(3, [2]int{0, 1}, [2]int{1, 2}).relation(),
		tableOf(2, [2]int{0, 0}, [2]int{1, 1}).relation(),
		newTable(70, func(i, j int) bool { return i < j }).relation(),
		newTable(70, func(i, j int) bool { return true }).relation(),
		newTable(512, func(i, j int) bool { return j == i+1 }).relation(),
		shared(3, 0),
		shared(3, 7),
		shared(70, 2),
		shared(128, 0),
	}
}

// spoil changes all words of a result, and those that are behind its ends.
func spoil(r api.Relation) {
	for i := range r.Rows {
		row := r.Rows[i].W
		for k := range row[:cap(row)] {
			row[:cap(row)][k] ^= math.MaxUint64
		}
	}
	for i := range r.Rows[:cap(r.Rows)] {
		r.Rows[:cap(r.Rows)][i] = api.Set{N: -1}
	}
}

func TestArgumentsStayAndShareNoMemory(t *testing.T) {
	for i, a := range memorySamples() {
		for k, b := range memorySamples() {
			beforeA, beforeB := clone(a), clone(b)
			for c, f := range calls() {
				result, _ := f(a, b)
				if !isEqual(a, beforeA) || !isEqual(b, beforeB) {
					t.Errorf("the call %d changed an argument: %d, %d", c, i, k)
				}
				spoil(result)
				if !isEqual(a, beforeA) || !isEqual(b, beforeB) {
					t.Errorf("the result of call %d shares memory with an argument: %d, %d", c, i, k)
				}
			}
			if result, err := relation.Compose(a, a); err == api.OK {
				spoil(result)
			}
			if !isEqual(a, beforeA) {
				t.Errorf("the composition of an argument with itself shares memory with it: %d", i)
			}
		}
	}
}

func TestReadersKeepArguments(t *testing.T) {
	for i, r := range slices.Concat(memorySamples(), invalid()) {
		before := clone(r)
		relation.Valid(r)
		relation.Acyclic(r)
		relation.Pairs(r)
		relation.Order(r)
		relation.Cycle(r)
		for _, f := range calls() {
			f(r, r)
		}
		if !isEqual(r, before) {
			t.Errorf("%d: an argument was changed", i)
		}
	}
	for _, sample := range others() {
		pairs := sample.pairs()
		before := slices.Clone(pairs)
		relation.Make(len(sample), pairs)
		relation.Make(len(sample)/2, pairs)
		if !slices.Equal(pairs, before) {
			t.Error("Make changed its argument")
		}
	}
}

// checkRows changes row by row, and finds out whether another one is changed by that.
func checkRows(t *testing.T, r api.Relation) {
	t.Helper()
	for i := range r.Rows {
		before := clone(r)
		row := r.Rows[i].W
		for k := range row[:cap(row)] {
			row[:cap(row)][k] ^= math.MaxUint64
		}
		for k := range r.Rows {
			if k != i && !slices.Equal(r.Rows[k].W, before.Rows[k].W) {
				t.Fatalf("the rows %d and %d of a result share memory", i, k)
			}
		}
	}
}

func TestRowsShareNoMemory(t *testing.T) {
	for _, r := range memorySamples() {
		if len(r.Rows) > 100 {
			continue
		}
		for _, f := range calls() {
			result, _ := f(r, r)
			checkRows(t, result)
		}
		pairs, _ := relation.Pairs(r)
		result, _ := relation.Make(len(r.Rows), pairs)
		checkRows(t, result)
		result, _ = relation.Make(len(r.Rows), nil)
		checkRows(t, result)
	}
}

// The same arguments have the same results, also after results were changed: nothing is kept.
func TestNothingIsKept(t *testing.T) {
	for _, r := range memorySamples() {
		for c, f := range calls() {
			first, err := f(r, r)
			before := clone(first)
			spoil(first)
			second, again := f(r, r)
			if !isEqual(second, before) || again != err {
				t.Errorf("the call %d has two results", c)
			}
		}
		cycle, err := relation.Cycle(r)
		before := slices.Clone(cycle)
		clear(cycle)
		if second, again := relation.Cycle(r); !slices.Equal(second, before) || again != err {
			t.Error("Cycle has two results")
		}
	}
}
