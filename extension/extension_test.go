package extension_test

import (
	"fmt"
	"math"
	"slices"
	"testing"

	"antecede/api"
	"antecede/extension"
)

// checkList checks a list that is a result.
func checkList(t *testing.T, what string, of table, got []int, err api.Errno, want []int) {
	t.Helper()
	if err != api.OK || !slices.Equal(got, want) {
		t.Errorf("%s of %v = %s, %d, not %s", what, of, brief(got), err, brief(want))
	}
}

// checkNoList checks that there is an error, and nothing else.
func checkNoList(t *testing.T, what string, of fmt.Stringer, got []int, err, want api.Errno) {
	t.Helper()
	if err != want || len(got) != 0 {
		t.Errorf("%s of %v = %s, %d, want the error %d", what, of, brief(got), err, want)
	}
}

func checkNumber(t *testing.T, what string, of fmt.Stringer, got int, err api.Errno, want int) {
	t.Helper()
	if err != api.OK || got != want {
		t.Errorf("%s of %v = %d, %d, not %d", what, of, got, err, want)
	}
}

func checkNoNumber(t *testing.T, what string, of fmt.Stringer, got int, err, want api.Errno) {
	t.Helper()
	if err != want || got != 0 {
		t.Errorf("%s of %v = %d, %d, want the error %d", what, of, got, err, want)
	}
}

// shown has a short text.
type shown api.Relation

func (r shown) String() string {
	return show(api.Relation(r))
}

// checkNothing checks that all functions with an order return an error, and nothing else.
func checkNothing(t *testing.T, p api.Relation, l []int, k int, want api.Errno) {
	t.Helper()
	got, err := extension.Least(p)
	checkNoList(t, "Least", shown(p), got, err, want)
	got, err = extension.Next(p, l)
	checkNoList(t, "Next", shown(p), got, err, want)
	checkNoCount(t, p, l, k, want)
}

// checkNoCount checks that the functions that count return an error, and nothing else.
func checkNoCount(t *testing.T, p api.Relation, l []int, k int, want api.Errno) {
	t.Helper()
	count, err := extension.Count(p)
	checkNoNumber(t, "Count", shown(p), count, err, want)
	rank, err := extension.Rank(p, l)
	checkNoNumber(t, "Rank", shown(p), rank, err, want)
	got, err := extension.Unrank(p, k)
	checkNoList(t, "Unrank", shown(p), got, err, want)
}

// The tests themselves

func TestNumbersOfOrders(t *testing.T) {
	for n, want := range []int{1, 1, 3, 19, 219, 4231} {
		if got := len(orders(n)); got != want {
			t.Errorf("the tests know %d orders of %d elements, not %d", got, n, want)
		}
	}
	for _, order := range append(middle(), exactly(8101), exactly(api.MaxNumber), exactly(api.MaxNumber+1)) {
		if !order.isOrder() {
			t.Errorf("%v is no order", order)
		}
	}
	for count := 2; count < 200; count++ {
		if order := exactly(count); len(order) < 9 && len(order.extensions()) != count {
			t.Errorf("%v does not have %d extensions", order, count)
		}
	}
	for _, s := range counted() {
		if s.count < 1 || s.count > api.MaxNumber || len(s.order) > api.MaxSet {
			t.Errorf("%v has %d extensions", s.order, s.count)
		}
	}
}

// ErrArg comes before what is wrong with a list or a rank.
func TestErrArg(t *testing.T) {
	for _, p := range notOrders() {
		n := len(p.Rows)
		for _, l := range [][]int{nil, {}, {0}, {-1}, {n}, {0, 0}, numbers(n), reversed(numbers(n)), numbers(n + 1), {0, 1}, {1, 0}, {2, 1, 0}} {
			if extension.Is(p, l) {
				t.Errorf("Is(%s, %s)", show(p), brief(l))
			}
			got, err := extension.Next(p, l)
			checkNoList(t, "Next", shown(p), got, err, api.ErrArg)
			rank, err := extension.Rank(p, l)
			checkNoNumber(t, "Rank", shown(p), rank, err, api.ErrArg)
		}
		for _, k := range []int{0, 1, -1, math.MinInt, math.MaxInt, api.MaxNumber} {
			checkNothing(t, p, nil, k, api.ErrArg)
		}
	}
}

// P8.1

func checkIs(t *testing.T, order table, p api.Relation, l []int, want bool) {
	t.Helper()
	if extension.Is(p, l) != want {
		t.Errorf("Is(%v, %s) is not %t", order, brief(l), want)
	}
}

func TestIs(t *testing.T) {
	for n := range 4 {
		for _, relation := range all(n) {
			p, isOrder := relation.relation(), relation.isOrder()
			for _, l := range lists(n, n+1) {
				checkIs(t, relation, p, l, isOrder && relation.isExtension(l))
			}
		}
	}
	for _, order := range orders(4) {
		p := order.relation()
		for _, l := range lists(4, 4) {
			checkIs(t, order, p, l, order.isExtension(l))
		}
	}
	permutations := permutations(5)
	for _, order := range orders(5) {
		p := order.relation()
		for _, l := range permutations {
			checkIs(t, order, p, l, order.isExtension(l))
		}
	}
}

func TestIsExamples(t *testing.T) {
	order := tableOf(3, [2]int{2, 0})
	for _, c := range []struct {
		l    []int
		want bool
	}{
		{[]int{1, 2, 0}, true},
		{[]int{2, 0, 1}, true},
		{[]int{2, 1, 0}, true},
		{[]int{0, 2, 1}, false},
		{[]int{0, 1, 2}, false},
		{[]int{1, 0, 2}, false},
		{[]int{2, 0}, false},
		{[]int{2, 0, 2}, false},
		{[]int{2, 2, 0}, false},
		{[]int{2, 0, 3}, false},
		{[]int{2, 0, -1}, false},
		{[]int{2, 0, 1, 1}, false},
		{[]int{2, 0, 1, 3}, false},
		{[]int{}, false},
		{nil, false},
	} {
		checkIs(t, order, order.relation(), c.l, c.want)
	}
	none := noPairs(0)
	checkIs(t, none, none.relation(), nil, true)
	checkIs(t, none, none.relation(), []int{}, true)
	checkIs(t, none, api.Relation{}, []int{0}, false)
	checkIs(t, none, api.Relation{Rows: []api.Set{}}, []int{-1}, false)
}

func TestIsOfManyElements(t *testing.T) {
	next := random(3)
	for _, n := range []int{6, 63, 64, 65, 128, 511, 512} {
		for _, order := range []table{noPairs(n), chain(n).renamed(shuffled(n, next)), fence(n), tree(n).renamed(reversed(numbers(n)))} {
			p, l := order.relation(), order.some(next)
			checkIs(t, order, p, l, true)
			for _, wrong := range wrongLists(l) {
				checkIs(t, order, p, wrong, false)
			}
			// Two elements that have changed their places.
			for range 20 {
				a, b := next(n), next(n)
				changed := slices.Clone(l)
				changed[a], changed[b] = changed[b], changed[a]
				checkIs(t, order, p, changed, order.isExtension(changed))
			}
			checkIs(t, order, p, reversed(l), order.isExtension(reversed(l)))
		}
	}
}

// Each pair of an order counts.
func TestIsOfOnePair(t *testing.T) {
	for _, n := range []int{2, 64, 65, 512} {
		l := shuffled(n, random(4))
		for _, at := range [][2]int{{0, n - 1}, {n - 2, n - 1}, {0, 1}, {0, n / 2}, {n/2 - 1, n / 2}} {
			first, second := l[at[0]], l[at[1]]
			checkIs(t, nil, tableOf(n, [2]int{first, second}).relation(), l, true)
			checkIs(t, nil, tableOf(n, [2]int{second, first}).relation(), l, false)
		}
	}
}

func TestLeast(t *testing.T) {
	for _, order := range slices.Concat(small(), middle()) {
		got, err := extension.Least(order.relation())
		checkList(t, "Least", order, got, err, order.extensions()[0])
	}
}

func TestLeastExamples(t *testing.T) {
	for _, c := range []struct {
		order table
		want  []int
	}{
		{noPairs(0), nil},
		{noPairs(1), []int{0}},
		{noPairs(4), []int{0, 1, 2, 3}},
		{chain(4), []int{0, 1, 2, 3}},
		{chain(4).renamed([]int{3, 2, 1, 0}), []int{3, 2, 1, 0}},
		{tableOf(3, [2]int{2, 0}), []int{1, 2, 0}},
		{tableOf(4, [2]int{3, 0}, [2]int{3, 1}), []int{2, 3, 0, 1}},
		{tableOf(4, [2]int{3, 0}, [2]int{2, 1}), []int{2, 1, 3, 0}},
		{tableOf(4, [2]int{1, 0}, [2]int{3, 2}, [2]int{3, 0}), []int{1, 3, 0, 2}},
		{fence(5).renamed([]int{1, 0, 3, 2, 4}), []int{1, 3, 0, 4, 2}},
	} {
		got, err := extension.Least(c.order.relation())
		checkList(t, "Least", c.order, got, err, c.want)
	}
	got, err := extension.Least(api.Relation{})
	checkList(t, "Least", noPairs(0), got, err, nil)
}

// There is no limit for ideals, or for extensions.
func TestLeastOfManyElements(t *testing.T) {
	for _, order := range manyElements() {
		got, err := extension.Least(order.relation())
		checkList(t, "Least", order, got, err, order.least())
	}
}

// manyElements are orders with more elements, also with more ideals and extensions than can be counted.
func manyElements() []table {
	next := random(5)
	var l []table
	for _, n := range []int{20, 63, 64, 65, 128, 512} {
		names := shuffled(n, next)
		for _, order := range []table{
			noPairs(n),
			chain(n),
			fence(n),
			chains(n/3, n-n/3),
			newTable(n, func(i, j int) bool { return i < j && next(n) < 3 }).reached(),
		} {
			l = append(l, order.renamed(names), order.renamed(reversed(numbers(n))))
		}
	}
	return l
}

// P8.2

func TestCount(t *testing.T) {
	for _, order := range slices.Concat(small(), middle()) {
		got, err := extension.Count(order.relation())
		checkNumber(t, "Count", order, got, err, len(order.extensions()))
	}
}

func TestCountExamples(t *testing.T) {
	got, err := extension.Count(api.Relation{})
	checkNumber(t, "Count", noPairs(0), got, err, 1)
	got, err = extension.Count(tableOf(3, [2]int{2, 0}).relation())
	checkNumber(t, "Count", tableOf(3, [2]int{2, 0}), got, err, 3)
}

func TestCountOfKnownOrders(t *testing.T) {
	for _, s := range named(counted()) {
		got, err := extension.Count(s.order.relation())
		checkNumber(t, "Count", s.order, got, err, s.count)
	}
}

// Too many ideals come before too many extensions; each of them also before a rank that is wrong, but
// not before a list that is none.
func TestErrorsOfCount(t *testing.T) {
	check := func(order table, want api.Errno) {
		t.Helper()
		p, l := order.relation(), order.least()
		checkNoCount(t, p, l, 0, want)
		for _, k := range []int{-1, math.MaxInt} {
			got, err := extension.Unrank(p, k)
			checkNoList(t, fmt.Sprintf("Unrank %d", k), order, got, err, want)
		}
		for _, wrong := range [][]int{nil, l[1:], append(slices.Clone(l), len(l))} {
			rank, err := extension.Rank(p, wrong)
			checkNoNumber(t, "Rank "+brief(wrong), order, rank, err, api.ErrOrder)
		}
	}
	names := reversed(numbers(api.MaxSet))
	for _, order := range numerous() {
		check(order, api.ErrBig)
		check(order.renamed(names[api.MaxSet-len(order):]), api.ErrBig)
	}
	for _, order := range wide() {
		check(order, api.ErrBudget)
		check(order.renamed(names[api.MaxSet-len(order):]), api.ErrBudget)
	}
}

// P8.3

func TestNext(t *testing.T) {
	for _, order := range slices.Concat(small(), middle()) {
		p, extensions := order.relation(), order.extensions()
		for k, l := range extensions {
			got, err := extension.Next(p, l)
			if k+1 == len(extensions) {
				checkNoList(t, "Next", order, got, err, api.ErrNone)
			} else {
				checkList(t, "Next", order, got, err, extensions[k+1])
			}
		}
	}
}

func TestNextExamples(t *testing.T) {
	for _, c := range []struct {
		order   table
		l, want []int
	}{
		{tableOf(3, [2]int{2, 0}), []int{1, 2, 0}, []int{2, 0, 1}},
		{tableOf(3, [2]int{2, 0}), []int{2, 0, 1}, []int{2, 1, 0}},
		{noPairs(2), []int{0, 1}, []int{1, 0}},
		{noPairs(5), []int{0, 4, 3, 2, 1}, []int{1, 0, 2, 3, 4}},
		{noPairs(5), []int{2, 1, 4, 3, 0}, []int{2, 3, 0, 1, 4}},
		{layers(2, 2), []int{0, 1, 3, 2}, []int{1, 0, 2, 3}},
		{chains(1, 3), []int{1, 0, 2, 3}, []int{1, 2, 0, 3}},
		{chains(2, 2), []int{0, 2, 3, 1}, []int{2, 0, 1, 3}},
	} {
		got, err := extension.Next(c.order.relation(), c.l)
		checkList(t, "Next", c.order, got, err, c.want)
	}
	for _, order := range []table{noPairs(0), noPairs(1), chain(2), chain(5).renamed([]int{3, 1, 0, 4, 2}), chain(512)} {
		got, err := extension.Next(order.relation(), order.least())
		checkNoList(t, "Next", order, got, err, api.ErrNone)
	}
}

func TestNextOfManyElements(t *testing.T) {
	next := random(6)
	for _, order := range manyElements() {
		p := order.relation()
		got, err := extension.Next(p, order.last())
		checkNoList(t, "Next", order, got, err, api.ErrNone)
		for _, l := range [][]int{order.least(), order.some(next)} {
			got, err = extension.Next(p, l)
			if want, isThere := order.following(l); isThere {
				checkList(t, "Next", order, got, err, want)
			} else {
				checkNoList(t, "Next", order, got, err, api.ErrNone)
			}
		}
	}
	// All elements but the first one change their places.
	n := api.MaxSet
	got, err := extension.Next(noPairs(n).relation(), append([]int{0}, reversed(numbers(n))[:n-1]...))
	checkList(t, "Next", noPairs(n), got, err, append([]int{1, 0}, numbers(n)[2:]...))
}

// Lists that are no extensions are so for Next and for Rank.
func TestErrOrder(t *testing.T) {
	check := func(order table, p api.Relation, l []int) {
		t.Helper()
		got, err := extension.Next(p, l)
		checkNoList(t, "Next after "+brief(l), order, got, err, api.ErrOrder)
		rank, err := extension.Rank(p, l)
		checkNoNumber(t, "Rank "+brief(l), order, rank, err, api.ErrOrder)
	}
	for n := range 4 {
		for _, order := range orders(n) {
			p := order.relation()
			for _, l := range lists(n, n+1) {
				if !order.isExtension(l) {
					check(order, p, l)
				}
			}
		}
	}
	for _, order := range slices.Concat(orders(4), middle()) {
		p := order.relation()
		for _, l := range permutations(len(order)) {
			if !order.isExtension(l) {
				check(order, p, l)
			}
		}
	}
	for _, order := range []table{noPairs(0), chain(2), noPairs(64), fence(65), chain(512).renamed(reversed(numbers(512))), layers(256, 256)} {
		p := order.relation()
		for _, l := range wrongLists(order.last()) {
			check(order, p, l)
		}
	}
}

// P8.4

func TestRanks(t *testing.T) {
	for _, order := range slices.Concat(small(), middle()) {
		p, extensions := order.relation(), order.extensions()
		for k, l := range extensions {
			checkRank(t, order, p, l, k)
		}
		checkRange(t, p, len(extensions))
	}
}

// checkRank checks that l has the rank k, and that no other list has it.
func checkRank(t *testing.T, order table, p api.Relation, l []int, k int) {
	t.Helper()
	rank, err := extension.Rank(p, l)
	checkNumber(t, "Rank "+brief(l), order, rank, err, k)
	got, err := extension.Unrank(p, k)
	checkList(t, fmt.Sprintf("Unrank %d", k), order, got, err, l)
}

// checkRange checks ranks that are too small or too great.
func checkRange(t *testing.T, p api.Relation, count int) {
	t.Helper()
	for _, k := range []int{-1, -count, math.MinInt, count, count + 1, 2 * count, api.MaxNumber, api.MaxNumber + 1, math.MaxInt} {
		if k < 0 || k >= count {
			got, err := extension.Unrank(p, k)
			checkNoList(t, fmt.Sprintf("Unrank %d", k), shown(p), got, err, api.ErrRange)
		}
	}
}

// The first extension, the last one, and ranks between them.
func TestRanksOfKnownOrders(t *testing.T) {
	next := random(7)
	for _, s := range named(counted()) {
		p := s.order.relation()
		checkRank(t, s.order, p, s.order.least(), 0)
		checkRank(t, s.order, p, s.order.last(), s.count-1)
		for _, k := range []int{s.count / 2, next(s.count)} {
			l, err := extension.Unrank(p, k)
			if err != api.OK || !s.order.isExtension(l) {
				t.Errorf("Unrank %d of %v = %s, %d", k, s.order, brief(l), err)
			}
			checkRank(t, s.order, p, l, k)
			if following, isThere := s.order.following(l); isThere {
				checkRank(t, s.order, p, following, k+1)
			}
		}
	}
	for _, s := range counted() {
		for _, k := range []int{-1, s.count, math.MaxInt} {
			got, err := extension.Unrank(s.order.relation(), k)
			checkNoList(t, fmt.Sprintf("Unrank %d", k), s.order, got, err, api.ErrRange)
		}
	}
}

// In layers of two elements the digits of the rank to the base 2 tell which one is first.
func TestRanksOfTwos(t *testing.T) {
	next := random(8)
	for _, count := range []int{1, 2, 20, 49, 50} {
		order := twos(count)
		p := order.relation()
		for range 20 {
			k := next(1 << count)
			l := numbers(2 * count)
			for i := range count {
				if k>>(count-1-i)%2 == 1 {
					l[2*i], l[2*i+1] = l[2*i+1], l[2*i]
				}
			}
			checkRank(t, order, p, l, k)
		}
		checkRange(t, p, 1<<count)
	}
}

// Without pairs each element has as many ranks before it as there are smaller ones later, for each
// order of what is later.
func TestRanksWithoutPairs(t *testing.T) {
	next := random(9)
	for n := range 13 {
		order := noPairs(n)
		p := order.relation()
		for range 5 {
			l, rank := shuffled(n, next), 0
			for at, i := range l {
				smaller := 0
				for _, j := range l[at:] {
					if j < i {
						smaller++
					}
				}
				rank = rank*(n-at) + smaller
			}
			checkRank(t, order, p, l, rank)
		}
		checkRange(t, p, factorial(n))
	}
}

// One element that goes through a chain.
func TestRanksOfOneElement(t *testing.T) {
	for _, n := range []int{2, 63, 64, 65, 511, 512} {
		first := chains(1, n-1)
		last := first.renamed(append(numbers(n)[1:], 0))
		for _, k := range []int{0, 1, n / 2, n - 2, n - 1} {
			checkRank(t, first, first.relation(), slices.Insert(numbers(n)[1:], k, 0), k)
			checkRank(t, last, last.relation(), slices.Insert(numbers(n-1), n-1-k, n-1), k)
		}
		checkRange(t, first.relation(), n)
		checkRange(t, last.relation(), n)
	}
}

func TestExample(t *testing.T) {
	order := tableOf(3, [2]int{2, 0})
	p := order.relation()
	count, err := extension.Count(p)
	checkNumber(t, "Count", order, count, err, 3)
	for k, l := range [][]int{{1, 2, 0}, {2, 0, 1}, {2, 1, 0}} {
		checkRank(t, order, p, l, k)
	}
	checkRange(t, p, 3)
}

// P8.5

// common is the meet of lists by places.
func common(n int, l [][]int) table {
	var places [][]int
	for _, list := range l {
		places = append(places, inverse(list))
	}
	return newTable(n, func(i, j int) bool {
		return !slices.ContainsFunc(places, func(place []int) bool { return place[i] >= place[j] })
	})
}

func checkMeet(t *testing.T, n int, l [][]int, want table) {
	t.Helper()
	got, err := extension.Meet(n, l)
	if meet, isRelation := read(n, got); err != api.OK || !isRelation || !meet.isEqual(want) {
		t.Errorf("Meet of %d lists (%s ..) = %s, %d, not %v", len(l), brief(l[0]), show(got), err, want)
	}
}

func checkNoMeet(t *testing.T, n int, l [][]int, want api.Errno) {
	t.Helper()
	if got, err := extension.Meet(n, l); err != want || len(got.Rows) != 0 {
		t.Errorf("Meet of %d lists of %d numbers = %s, %d, want the error %d", len(l), n, show(got), err, want)
	}
}

func TestMeet(t *testing.T) {
	for n := range 5 {
		permutations := permutations(n)
		for _, a := range permutations {
			checkMeet(t, n, [][]int{a}, common(n, [][]int{a}))
			for _, b := range permutations {
				checkMeet(t, n, [][]int{a, b}, common(n, [][]int{a, b}))
				for _, c := range permutations {
					checkMeet(t, n, [][]int{a, b, c}, common(n, [][]int{a, b, c}))
				}
			}
		}
	}
}

func TestMeetExamples(t *testing.T) {
	for _, c := range []struct {
		l    [][]int
		want table
	}{
		{[][]int{nil}, noPairs(0)},
		{[][]int{{}, nil, {}}, noPairs(0)},
		{[][]int{{0}}, noPairs(1)},
		{[][]int{{0}, {0}}, noPairs(1)},
		{[][]int{{0, 1}}, tableOf(2, [2]int{0, 1})},
		{[][]int{{1, 0}}, tableOf(2, [2]int{1, 0})},
		{[][]int{{1, 0}, {1, 0}}, tableOf(2, [2]int{1, 0})},
		{[][]int{{1, 0}, {0, 1}}, noPairs(2)},
		{[][]int{{2, 0, 1}}, tableOf(3, [2]int{2, 0}, [2]int{2, 1}, [2]int{0, 1})},
		{[][]int{{1, 2, 0}, {2, 0, 1}, {2, 1, 0}}, tableOf(3, [2]int{2, 0})},
		{[][]int{{1, 2, 0}, {2, 0, 1}}, tableOf(3, [2]int{2, 0})},
		{[][]int{{0, 1, 2, 3}, {0, 2, 1, 3}}, layers(1, 2, 1)},
	} {
		checkMeet(t, len(c.want), c.l, c.want)
	}
}

func TestMeetOfManyLists(t *testing.T) {
	next := random(10)
	for _, n := range []int{0, 1, 2, 10, 63, 64, 65, 511, 512} {
		checkMeet(t, n, [][]int{numbers(n)}, chain(n))
		checkMeet(t, n, [][]int{reversed(numbers(n)), numbers(n)}, noPairs(n))
		for _, count := range []int{1, 2, 3, 99, 100} {
			list := shuffled(n, next)
			same := slices.Repeat([][]int{list}, count)
			checkMeet(t, n, same, chain(n).renamed(inverse(list)))
			// One list alone, the first or the last one, with two neighbours that have changed places.
			if n > 1 {
				other := slices.Clone(list)
				at := next(n - 1)
				other[at], other[at+1] = other[at+1], other[at]
				for _, k := range []int{0, count - 1} {
					l := slices.Replace(slices.Clone(same), k, k+1, other)
					checkMeet(t, n, l, common(n, l))
				}
			}
			// Lists that have some pairs in common.
			order := chains(n/3, n-n/3).renamed(list)
			var l [][]int
			for range min(count, 1+2000/(n+1)) {
				l = append(l, order.some(next))
			}
			checkMeet(t, n, l, common(n, l))
		}
	}
}

func TestErrorsOfMeet(t *testing.T) {
	// The first of several errors.
	for _, n := range []int{-1, -64, math.MinInt, 513, 514, 1 << 32, math.MaxInt} {
		for _, l := range [][][]int{nil, {}, {nil}, {{}}, {{0}}, {numbers(513)}, slices.Repeat([][]int{nil}, 101), {{-1}}} {
			checkNoMeet(t, n, l, api.ErrRange)
		}
	}
	for _, n := range []int{0, 1, 2, 64, 511, 512} {
		checkNoMeet(t, n, nil, api.ErrNone)
		checkNoMeet(t, n, [][]int{}, api.ErrNone)
		for _, count := range []int{101, 102, 1000, 100000} {
			for _, list := range [][]int{numbers(n), nil, {0}, {-1}} {
				checkNoMeet(t, n, slices.Repeat([][]int{list}, count), api.ErrFull)
			}
		}
	}
}

// One of the lists is none of all numbers.
func TestErrOrderOfMeet(t *testing.T) {
	next := random(11)
	for _, n := range []int{0, 1, 2, 3, 63, 64, 65, 511, 512} {
		good := shuffled(n, next)
		for _, wrong := range wrongLists(good) {
			checkNoMeet(t, n, [][]int{wrong}, api.ErrOrder)
			checkNoMeet(t, n, [][]int{wrong, wrong}, api.ErrOrder)
			for _, count := range []int{2, 3, 100} {
				for _, k := range []int{0, count / 2, count - 1} {
					l := slices.Repeat([][]int{good}, count)
					l[k] = wrong
					checkNoMeet(t, n, l, api.ErrOrder)
				}
			}
		}
	}
	for n := range 4 {
		for _, l := range lists(n, n+1) {
			if !hasAll(n, l) {
				checkNoMeet(t, n, [][]int{l}, api.ErrOrder)
				checkNoMeet(t, n, [][]int{numbers(n), l}, api.ErrOrder)
			}
		}
	}
}

// P8.6

// walk goes from the least extension on by Next.
func walk(t *testing.T, p api.Relation) [][]int {
	t.Helper()
	list, err := extension.Least(p)
	var l [][]int
	for ; err == api.OK; list, err = extension.Next(p, list) {
		l = append(l, list)
	}
	if err != api.ErrNone {
		t.Fatalf("going on from %v ends with the error %d", l[len(l)-1], err)
	}
	return l
}

// walked are orders whose extensions can all be gone through.
func walked() []table {
	l := slices.Concat(small(), middle())
	for _, s := range named(counted()) {
		if s.count <= 10000 && len(s.order) <= 100 {
			l = append(l, s.order)
		}
	}
	return l
}

func TestWalk(t *testing.T) {
	for _, order := range walked() {
		p := order.relation()
		l := walk(t, p)
		count, err := extension.Count(p)
		checkNumber(t, "Count", order, count, err, len(l))
		for k, list := range l {
			if !extension.Is(p, list) || k > 0 && slices.Compare(l[k-1], list) >= 0 {
				t.Errorf("Next leads through the extensions of %v by %v", order, list)
			}
			if len(l) <= 100 {
				checkRank(t, order, p, list, k)
			}
		}
	}
}

// Of two elements that are not comparable each one stands first in some extension.
func TestIncomparable(t *testing.T) {
	for _, order := range walked() {
		l := walk(t, order.relation())
		isFirst := newTable(len(order), func(i, j int) bool { return false })
		for _, list := range l {
			for at, i := range list {
				for _, j := range list[at+1:] {
					isFirst[i][j] = true
				}
			}
		}
		want := newTable(len(order), func(i, j int) bool { return i != j && !order[j][i] })
		if !isFirst.isEqual(want) {
			t.Errorf("in the extensions of %v come first: %v", order, isFirst)
		}
	}
}

// The meet of all extensions is the order: at most 100 can be taken at once.
func TestMeetOfExtensions(t *testing.T) {
	for _, order := range walked() {
		n := len(order)
		meet := newTable(n, func(i, j int) bool { return true })
		for part := range slices.Chunk(walk(t, order.relation()), 100) {
			r, err := extension.Meet(n, part)
			in, isRelation := read(n, r)
			if err != api.OK || !isRelation {
				t.Fatalf("Meet of extensions of %v = %s, %d", order, show(r), err)
			}
			meet = newTable(n, func(i, j int) bool { return meet[i][j] && in[i][j] })
		}
		if !meet.isEqual(order) {
			t.Errorf("the meet of the extensions of %v is %v", order, meet)
		}
	}
}

// Two extensions are enough for the meet of two chains; and each list is the one extension of its meet.
func TestExtensionsOfMeet(t *testing.T) {
	next := random(12)
	for _, n := range []int{0, 1, 2, 3, 5, 64, 65, 512} {
		a, b := shuffled(n, next), shuffled(n, next)
		chain, err := extension.Meet(n, [][]int{a})
		if err != api.OK || !extension.Is(chain, a) {
			t.Errorf("%s is no extension of its meet", brief(a))
		}
		count, err := extension.Count(chain)
		checkNumber(t, "Count", shown(chain), count, err, 1)
		least, err := extension.Least(chain)
		checkList(t, "Least", common(n, [][]int{a}), least, err, a)
		both, err := extension.Meet(n, [][]int{a, b})
		if err != api.OK || !extension.Is(both, a) || !extension.Is(both, b) {
			t.Errorf("%s or %s are no extensions of their meet", brief(a), brief(b))
		}
	}
}
