package extension_test

import (
	"fmt"
	"math"
	"slices"
	"testing"

	"antecede/api"
	"antecede/extension"
)

// arguments are an order, an extension, a rank, and lists, or others.
type arguments struct {
	p api.Relation
	l []int
	k int
	n int
	m [][]int
}

// padded are the same elements with room behind their end, in which nothing may be written.
func padded[E any](l []E, room ...E) []E {
	return append(append(make([]E, 0, len(l)+len(room)), l...), room...)[:len(l)]
}

func paddedRelation(r api.Relation) api.Relation {
	var rows []api.Set
	for _, row := range r.Rows {
		rows = append(rows, api.Set{N: row.N, W: padded(row.W, 77, 78)})
	}
	return api.Relation{Rows: padded(rows, api.Set{N: 79}, api.Set{})}
}

func paddedLists(l [][]int) [][]int {
	var lists [][]int
	for _, list := range l {
		lists = append(lists, padded(list, 80, 81))
	}
	return padded(lists, []int{82})
}

// String is a text of all that is in the arguments, and behind their ends.
func (a arguments) String() string {
	text := fmt.Sprint(len(a.p.Rows), a.p.Rows[:cap(a.p.Rows)], len(a.l), a.l[:cap(a.l)], len(a.m), a.m[:cap(a.m)])
	for _, row := range a.p.Rows[:cap(a.p.Rows)] {
		text += fmt.Sprint(row.W[:cap(row.W)])
	}
	for _, list := range a.m[:cap(a.m)] {
		text += fmt.Sprint(list[:cap(list)])
	}
	return text
}

func allArguments() []arguments {
	next := random(13)
	var l []arguments
	for _, order := range []table{
		noPairs(0), noPairs(1), noPairs(3), chain(2).renamed([]int{1, 0}), layers(1, 2, 1), fence(9), chain(63),
		chain(64), chains(2, 63), twos(33), twos(60), noPairs(70), chain(129),
		tableOf(3, [2]int{0, 1}, [2]int{1, 2}), tableOf(2, [2]int{0, 1}, [2]int{1, 0}),
	} {
		n, list := len(order), numbers(len(order))
		lists := [][]int{list, reversed(list), shuffled(n, next)}
		if order.isOrder() {
			lists = append(lists, order.least(), order.last())
			list = order.some(next)
		}
		for k, m := range [][][]int{lists, {list}, {list, nil}, {}, nil} {
			p := paddedRelation(order.relation())
			l = append(l, arguments{p, padded(lists[k%len(lists)], 83), k, n, paddedLists(m)}, arguments{p, padded(list, 84, 85), -k, n - 1, paddedLists(m)})
		}
	}
	// All rows, and all lists, are one slice.
	row := api.Set{N: 70, W: padded(make([]uint64, 2), 86)}
	list := padded(numbers(70), 87)
	shared := arguments{api.Relation{Rows: slices.Repeat([]api.Set{row}, 70)}, list, 0, 70, slices.Repeat([][]int{list}, 5)}
	return append(l, shared, arguments{p: api.Relation{Rows: []api.Set{{N: 1, W: []uint64{0, 0}}}}, l: list})
}

// outcome is a text of all results.
func outcome(a arguments) string {
	least, errLeast := extension.Least(a.p)
	count, errCount := extension.Count(a.p)
	next, errNext := extension.Next(a.p, a.l)
	rank, errRank := extension.Rank(a.p, a.l)
	list, errList := extension.Unrank(a.p, a.k)
	meet, errMeet := extension.Meet(a.n, a.m)
	return fmt.Sprint(extension.Is(a.p, a.l), least, errLeast, count, errCount, next, errNext, rank, errRank, list, errList, meet, errMeet)
}

func TestArgumentsStay(t *testing.T) {
	for i, a := range allArguments() {
		before := a.String()
		first := outcome(a)
		if a.String() != before {
			t.Errorf("%d: an argument was changed: %s, before %s", i, a, before)
		}
		if second := outcome(a); second != first {
			t.Errorf("%d: two results: %s, %s", i, first, second)
		}
	}
}

func spoil(l []int) {
	for k := range l[:cap(l)] {
		l[:cap(l)][k] = -7
	}
}

func TestResultsShareNoMemory(t *testing.T) {
	for i, a := range allArguments() {
		before, first := a.String(), outcome(a)
		least, _ := extension.Least(a.p)
		spoil(least)
		next, _ := extension.Next(a.p, a.l)
		spoil(next)
		list, _ := extension.Unrank(a.p, a.k)
		spoil(list)
		meet, _ := extension.Meet(a.n, a.m)
		for k, row := range meet.Rows {
			others := fmt.Sprint(slices.Delete(slices.Clone(meet.Rows), k, k+1))
			for w := range row.W[:cap(row.W)] {
				row.W[:cap(row.W)][w] ^= math.MaxUint64
			}
			if now := fmt.Sprint(slices.Delete(slices.Clone(meet.Rows), k, k+1)); now != others {
				t.Errorf("%d: the rows %s were changed to %s", i, others, now)
			}
		}
		for k := range meet.Rows[:cap(meet.Rows)] {
			meet.Rows[:cap(meet.Rows)][k] = api.Set{N: -7}
		}
		if a.String() != before {
			t.Errorf("%d: a result shares memory with an argument: %s, before %s", i, a, before)
		}
		if second := outcome(a); second != first {
			t.Errorf("%d: two results: %s, %s", i, first, second)
		}
	}
}

// The same arguments have the same results, whatever was asked before.
func TestResultsStay(t *testing.T) {
	l := allArguments()
	var first []string
	for _, a := range l {
		first = append(first, outcome(a))
	}
	for i, a := range slices.Backward(l) {
		if got := outcome(a); got != first[i] {
			t.Errorf("%v: two results: %s, %s", a, first[i], got)
		}
	}
}
