package bits_test

import (
	"math"
	"slices"
	"testing"

	"antecede/api"
	"antecede/bits"
)

const full = math.MaxUint64

// sizes are small ones, ones beside multiples of 64, and the limit.
func sizes() []int {
	return []int{0, 1, 2, 3, 63, 64, 65, 70, 127, 128, 129, 447, 448, 449, 511, 512}
}

func notSizes() []int {
	return []int{-1, -64, 513, 576, 1 << 32, math.MaxInt, math.MaxInt - 63, math.MinInt}
}

// indices are the numbers for which the members of a set with this N are asked, some of them outside.
func indices(n int) []int {
	l := []int{math.MinInt, math.MinInt + 1, -1 << 32, -512, -65, -64, -63, -2, -1, math.MaxInt, math.MaxInt - 63, 1 << 32}
	for i := range n + 130 {
		l = append(l, i)
	}
	return l
}

// invalid are sets that are not valid.
func invalid() []api.Set {
	l := []api.Set{
		{N: 0, W: []uint64{0}},
		{N: 0, W: []uint64{1}},
		{N: 1},
		{N: 1, W: []uint64{}},
		{N: 1, W: []uint64{0, 0}},
		{N: 1, W: []uint64{2}},
		{N: 1, W: []uint64{1 << 63}},
		{N: 3, W: []uint64{8}},
		{N: 63, W: []uint64{1 << 63}},
		{N: 63, W: []uint64{full}},
		{N: 64},
		{N: 64, W: []uint64{0, 0}},
		{N: 64, W: []uint64{full, 1}},
		{N: 65, W: []uint64{0}},
		{N: 65, W: []uint64{0, 2}},
		{N: 65, W: []uint64{0, 1 << 63}},
		{N: 65, W: []uint64{0, 0, 0}},
		{N: 70, W: []uint64{0, 64}},
		{N: 70, W: []uint64{full, 127}},
		{N: 128, W: []uint64{0}},
		{N: 128, W: []uint64{0, 0, 0}},
		{N: 511, W: append(make([]uint64, 7), 1<<63)},
		{N: 512, W: make([]uint64, 7)},
		{N: 512, W: make([]uint64, 9)},
		{N: 512},
	}
	for _, n := range notSizes() {
		for _, words := range []int{0, 1, 2, 8, 9, 10} {
			l = append(l, api.Set{N: n, W: make([]uint64, words)})
		}
	}
	return l
}

// random returns the words of a fixed sequence (SplitMix64).
func random(seed uint64) func() uint64 {
	return func() uint64 {
		seed += 0x9e3779b97f4a7c15
		x := seed
		x = (x ^ x>>30) * 0xbf58476d1ce4e5b9
		x = (x ^ x>>27) * 0x94d049bb133111eb
		return x ^ x>>31
	}
}

// lists returns ascending lists of numbers from 0 to n - 1: none, all, single ones, and others.
func lists(n int) [][]int {
	l := [][]int{nil}
	if n == 0 {
		return l
	}
	next := random(uint64(n))
	for _, sieve := range []func(i int) bool{
		func(i int) bool { return true },
		func(i int) bool { return i == 0 },
		func(i int) bool { return i == n/2 },
		func(i int) bool { return i == n-1 },
		func(i int) bool { return i != 0 },
		func(i int) bool { return i != n-1 },
		func(i int) bool { return i%2 == 0 },
		func(i int) bool { return i%2 == 1 },
		func(i int) bool { return i < 64 },
		func(i int) bool { return i >= 64 },
		func(i int) bool { return i%64 == 63 || i%64 == 0 },
		func(i int) bool { return next()%2 == 0 },
		func(i int) bool { return next()%2 == 0 },
		func(i int) bool { return next()%7 == 0 },
	} {
		var members []int
		for i := range n {
			if sieve(i) {
				members = append(members, i)
			}
		}
		l = append(l, members)
	}
	return l
}

// set makes the set with these members by the definition.
func set(n int, members ...int) api.Set {
	s := api.Set{N: n, W: make([]uint64, n/64)}
	if n%64 != 0 {
		s.W = append(s.W, 0)
	}
	for _, i := range members {
		s.W[i/64] |= uint64(1) << (i % 64)
	}
	return s
}

func sets(n int) []api.Set {
	var l []api.Set
	for _, members := range lists(n) {
		l = append(l, set(n, members...))
	}
	return l
}

// subsets are all sets with this N.
func subsets(n int) []api.Set {
	var l []api.Set
	for word := range uint64(1) << n {
		s := set(n)
		if n > 0 {
			s.W[0] = word
		}
		l = append(l, s)
	}
	return l
}

func isMember(s api.Set, i int) bool {
	return i >= 0 && i < s.N && s.W[i/64]>>(i%64)%2 == 1
}

func filter(n int, keep func(i int) bool) api.Set {
	var members []int
	for i := range n {
		if keep(i) {
			members = append(members, i)
		}
	}
	return set(n, members...)
}

func isEqual(a, b api.Set) bool {
	return a.N == b.N && slices.Equal(a.W, b.W)
}

func clone(s api.Set) api.Set {
	return api.Set{N: s.N, W: slices.Clone(s.W)}
}

func checkSet(t *testing.T, what string, got api.Set, err api.Errno, want api.Set) {
	t.Helper()
	if !isEqual(got, want) || err != api.OK || !bits.Valid(got) {
		t.Errorf("%s = %v, %d, want %v", what, got, err, want)
	}
}

func checkNoSet(t *testing.T, what string, got api.Set, err, want api.Errno) {
	t.Helper()
	if got.N != 0 || len(got.W) != 0 || err != want {
		t.Errorf("%s = %v, %d, want the error %d", what, got, err, want)
	}
}

type unary func(s api.Set, i int) (api.Set, api.Errno)

type binary func(a, b api.Set) (api.Set, api.Errno)

func unaries() []unary {
	return []unary{bits.With, bits.Without}
}

func binaries() []binary {
	return []binary{bits.Union, bits.Inter, bits.Minus}
}

// P2.1

func TestValid(t *testing.T) {
	for _, n := range sizes() {
		for _, s := range sets(n) {
			if !bits.Valid(s) {
				t.Errorf("%v is valid", s)
			}
		}
	}
	if !bits.Valid(api.Set{}) || !bits.Valid(api.Set{W: []uint64{}}) {
		t.Error("the set with N = 0 is valid")
	}
	if !bits.Valid(api.Set{N: 70, W: []uint64{full, 63}}) || !bits.Valid(api.Set{N: 64, W: []uint64{full}}) {
		t.Error("a set with all bits before N is valid")
	}
	for _, s := range invalid() {
		if bits.Valid(s) {
			t.Errorf("%v is not valid", s)
		}
	}
}

// Each bit from N on, each word besides, and each missing word make a set not valid.
func TestValidBitByBit(t *testing.T) {
	for n := range api.MaxSet + 1 {
		s := filter(n, func(i int) bool { return i%3 == 0 })
		if !bits.Valid(s) {
			t.Errorf("%v is valid", s)
		}
		for i := n; i < 64*len(s.W); i++ {
			other := clone(s)
			other.W[i/64] |= uint64(1) << (i % 64)
			if bits.Valid(other) {
				t.Errorf("%v is not valid", other)
			}
		}
		if bits.Valid(api.Set{N: n, W: append(slices.Clone(s.W), 0)}) {
			t.Errorf("%d is less than the words need", n)
		}
		if n > 0 && bits.Valid(api.Set{N: n, W: make([]uint64, len(s.W)-1)}) {
			t.Errorf("%d needs more words", n)
		}
	}
}

func TestOf(t *testing.T) {
	for _, n := range sizes() {
		for _, members := range lists(n) {
			want := set(n, members...)
			descending := slices.Clone(members)
			slices.Reverse(descending)
			for _, l := range [][]int{members, descending, slices.Concat(members, descending, members)} {
				got, err := bits.Of(n, l)
				checkSet(t, "Of", got, err, want)
			}
		}
	}
	for _, c := range []struct {
		n     int
		l     []int
		words []uint64
	}{
		{0, nil, nil},
		{0, []int{}, nil},
		{1, nil, []uint64{0}},
		{1, []int{0}, []uint64{1}},
		{70, []int{3, 65}, []uint64{8, 2}},
		{70, []int{65, 3, 65, 3, 3}, []uint64{8, 2}},
		{64, []int{63}, []uint64{1 << 63}},
		{65, []int{64, 0}, []uint64{1, 1}},
		{128, nil, []uint64{0, 0}},
		{512, []int{511, 0, 448}, []uint64{1, 0, 0, 0, 0, 0, 0, 1<<63 | 1}},
		{2, slices.Repeat([]int{1, 0, 1}, 2000), []uint64{3}},
	} {
		got, err := bits.Of(c.n, c.l)
		checkSet(t, "Of", got, err, api.Set{N: c.n, W: c.words})
	}
}

func TestOfOutOfRange(t *testing.T) {
	for _, n := range notSizes() {
		for _, l := range [][]int{nil, {}, {0}, {n}, {n - 1}, {-1}} {
			got, err := bits.Of(n, l)
			checkNoSet(t, "Of", got, err, api.ErrRange)
		}
	}
	for _, n := range sizes() {
		for _, i := range indices(n) {
			if i >= 0 && i < n {
				continue
			}
			members := lists(n)[len(lists(n))-1]
			for _, l := range [][]int{{i}, append([]int{i}, members...), append(slices.Clone(members), i)} {
				got, err := bits.Of(n, l)
				checkNoSet(t, "Of", got, err, api.ErrRange)
			}
		}
	}
}

func TestMembers(t *testing.T) {
	for _, n := range sizes() {
		for _, members := range lists(n) {
			if got, err := bits.Members(set(n, members...)); !slices.Equal(got, members) || err != api.OK {
				t.Errorf("%d: Members = %v, %d, want %v", n, got, err, members)
			}
		}
	}
	if got, err := bits.Members(api.Set{N: 70, W: []uint64{8, 2}}); !slices.Equal(got, []int{3, 65}) || err != api.OK {
		t.Error(got, err)
	}
	for _, s := range invalid() {
		if got, err := bits.Members(s); len(got) != 0 || err != api.ErrArg {
			t.Errorf("Members(%v) = %v, %d", s, got, err)
		}
	}
}

// P2.2

func TestHas(t *testing.T) {
	for _, n := range sizes() {
		for _, s := range sets(n) {
			for _, i := range indices(n) {
				if got := bits.Has(s, i); got != isMember(s, i) {
					t.Errorf("Has(%v, %d) = %t", s, i, got)
				}
			}
		}
	}
	for _, s := range invalid() {
		for _, i := range indices(512) {
			if bits.Has(s, i) {
				t.Errorf("Has(%v, %d) of a set that is not valid", s, i)
			}
		}
	}
	// The number is a member by its bit, but the set has one bit too many.
	if bits.Has(api.Set{N: 3, W: []uint64{9}}, 0) {
		t.Error("Has of a set with bits from N on")
	}
}

func TestWithWithout(t *testing.T) {
	for _, n := range sizes() {
		for _, s := range sets(n) {
			for i := range n {
				got, err := bits.With(s, i)
				checkSet(t, "With", got, err, filter(n, func(k int) bool { return k == i || isMember(s, k) }))
				got, err = bits.Without(s, i)
				checkSet(t, "Without", got, err, filter(n, func(k int) bool { return k != i && isMember(s, k) }))
			}
		}
	}
}

func TestWithWithoutErrors(t *testing.T) {
	for _, f := range unaries() {
		for _, n := range sizes() {
			for _, i := range indices(n) {
				if i < 0 || i >= n {
					got, err := f(sets(n)[len(sets(n))-1], i)
					checkNoSet(t, "With or Without", got, err, api.ErrRange)
				}
			}
		}
		// ErrArg comes first, also if the number is out of range.
		for _, s := range invalid() {
			for _, i := range []int{0, 1, 63, 64, 511, 512, s.N, s.N - 1, -1, math.MinInt, math.MaxInt} {
				got, err := f(s, i)
				checkNoSet(t, "With or Without", got, err, api.ErrArg)
			}
		}
	}
}

// P2.3

func TestUnionInterMinus(t *testing.T) {
	for _, n := range sizes() {
		for _, a := range sets(n) {
			for _, b := range sets(n) {
				got, err := bits.Union(a, b)
				checkSet(t, "Union", got, err, filter(n, func(i int) bool { return isMember(a, i) || isMember(b, i) }))
				got, err = bits.Inter(a, b)
				checkSet(t, "Inter", got, err, filter(n, func(i int) bool { return isMember(a, i) && isMember(b, i) }))
				got, err = bits.Minus(a, b)
				checkSet(t, "Minus", got, err, filter(n, func(i int) bool { return isMember(a, i) && !isMember(b, i) }))
			}
		}
	}
}

// incomparable are pairs of sets that are not comparable.
func incomparable() [][2]api.Set {
	var l [][2]api.Set
	for _, m := range sizes() {
		for _, n := range sizes() {
			if m != n {
				l = append(l, [2]api.Set{set(m), set(n)}, [2]api.Set{sets(m)[len(sets(m))-1], sets(n)[len(sets(n))-1]})
			}
		}
	}
	for _, s := range invalid() {
		l = append(l, [2]api.Set{s, s})
		valid := set(min(max(s.N, 0), api.MaxSet))
		l = append(l, [2]api.Set{s, valid}, [2]api.Set{valid, s})
	}
	return l
}

func TestIncomparable(t *testing.T) {
	for _, pair := range incomparable() {
		for _, f := range binaries() {
			got, err := f(pair[0], pair[1])
			checkNoSet(t, "Union, Inter or Minus", got, err, api.ErrArg)
		}
		if bits.Subset(pair[0], pair[1]) {
			t.Errorf("Subset of %v, which are not comparable", pair)
		}
		if order, err := bits.Compare(pair[0], pair[1]); order != 0 || err != api.ErrArg {
			t.Errorf("Compare of %v, which are not comparable, = %d, %d", pair, order, err)
		}
	}
}

// P2.4

func TestCount(t *testing.T) {
	for _, n := range sizes() {
		for _, members := range lists(n) {
			if got := bits.Count(set(n, members...)); got != len(members) {
				t.Errorf("%d: Count of %v = %d", n, members, got)
			}
		}
	}
	for _, s := range invalid() {
		if got := bits.Count(s); got != 0 {
			t.Errorf("Count(%v) = %d", s, got)
		}
	}
}

func TestSubset(t *testing.T) {
	for _, n := range sizes() {
		for _, a := range sets(n) {
			for _, b := range sets(n) {
				want := true
				for i := range n {
					want = want && (!isMember(a, i) || isMember(b, i))
				}
				if got := bits.Subset(a, b); got != want {
					t.Errorf("Subset(%v, %v) = %t", a, b, got)
				}
			}
		}
	}
}

// order is the order of sets by its definition.
func order(a, b api.Set) int {
	difference := 0
	for i := range a.N {
		if isMember(a, i) {
			difference++
		}
		if isMember(b, i) {
			difference--
		}
	}
	if difference < 0 {
		return -1
	}
	if difference > 0 {
		return 1
	}
	for i := range a.N {
		if isMember(a, i) && !isMember(b, i) {
			return -1
		}
		if isMember(b, i) && !isMember(a, i) {
			return 1
		}
	}
	return 0
}

func checkOrder(t *testing.T, a, b api.Set, want int) {
	t.Helper()
	if got, err := bits.Compare(a, b); got != want || err != api.OK {
		t.Errorf("Compare(%v, %v) = %d, %d, want %d", a, b, got, err, want)
	}
}

func TestCompare(t *testing.T) {
	for _, n := range sizes() {
		for _, a := range sets(n) {
			for _, b := range sets(n) {
				checkOrder(t, a, b, order(a, b))
			}
		}
	}
	all := subsets(6)
	for _, a := range all {
		for _, b := range all {
			checkOrder(t, a, b, order(a, b))
		}
	}
}

func TestCompareExamples(t *testing.T) {
	ascending := []api.Set{set(70), set(70, 69), set(70, 3, 7), set(70, 3, 65), set(70, 4, 5), set(70, 63, 64), set(70, 64, 65), set(70, 67, 68, 69)}
	for i, a := range ascending {
		for k, b := range ascending {
			checkOrder(t, a, b, min(max(i-k, -1), 1))
		}
	}
	// In words as numbers these are the other way round.
	checkOrder(t, set(64, 0, 63), set(64, 1, 2), -1)
	checkOrder(t, set(128, 0, 127), set(128, 1, 2), -1)
	checkOrder(t, set(128, 63), set(128, 62), 1)
	checkOrder(t, set(128, 64), set(128, 63), 1)
	checkOrder(t, set(0), api.Set{W: []uint64{}}, 0)
	checkOrder(t, set(512, 511), set(512, 511), 0)
}

// P2.5

// get returns a function that gives the result of an operation that must have no error.
func get(t *testing.T, f binary) func(a, b api.Set) api.Set {
	return func(a, b api.Set) api.Set {
		t.Helper()
		s, err := f(a, b)
		if err != api.OK {
			t.Errorf("the error %d for %v and %v", err, a, b)
		}
		return s
	}
}

func TestBooleanAlgebra(t *testing.T) {
	union, inter, minus := get(t, bits.Union), get(t, bits.Inter), get(t, bits.Minus)
	for _, l := range [][]api.Set{subsets(0), subsets(4), sets(65), sets(128)} {
		n := l[0].N
		none, all := set(n), filter(n, func(int) bool { return true })
		for _, a := range l {
			not := minus(all, a)
			if !isEqual(union(a, none), a) || !isEqual(inter(a, all), a) || !isEqual(union(a, not), all) || !isEqual(inter(a, not), none) || !isEqual(minus(all, not), a) {
				t.Errorf("the laws of the complement of %v", a)
			}
			for _, b := range l {
				if !isEqual(union(a, b), union(b, a)) || !isEqual(inter(a, b), inter(b, a)) || !isEqual(minus(a, b), inter(a, minus(all, b))) {
					t.Errorf("the laws of %v and %v", a, b)
				}
				if bits.Subset(a, b) != isEqual(union(a, b), b) || bits.Subset(a, b) != isEqual(inter(a, b), a) || bits.Count(union(a, b))+bits.Count(inter(a, b)) != bits.Count(a)+bits.Count(b) {
					t.Errorf("inclusion and count of %v and %v", a, b)
				}
				for _, c := range l {
					if !isEqual(union(a, inter(b, c)), inter(union(a, b), union(a, c))) || !isEqual(inter(a, union(b, c)), union(inter(a, b), inter(a, c))) || !isEqual(union(a, union(b, c)), union(union(a, b), c)) {
						t.Errorf("the laws of %v, %v and %v", a, b, c)
					}
				}
			}
		}
	}
}

func compare(t *testing.T, a, b api.Set) int {
	t.Helper()
	order, err := bits.Compare(a, b)
	if err != api.OK {
		t.Errorf("Compare(%v, %v) has the error %d", a, b, err)
	}
	return order
}

func TestOrderIsTotal(t *testing.T) {
	for _, l := range [][]api.Set{subsets(0), subsets(1), subsets(5), sets(70), sets(512)} {
		for _, a := range l {
			for _, b := range l {
				if compare(t, a, b) != -compare(t, b, a) || (compare(t, a, b) == 0) != isEqual(a, b) {
					t.Errorf("the order of %v and %v", a, b)
				}
				if bits.Subset(a, b) && !isEqual(a, b) && compare(t, a, b) != -1 {
					t.Errorf("%v comes before %v, which contains it", a, b)
				}
				for _, c := range l {
					if compare(t, a, b) < 0 && compare(t, b, c) < 0 && compare(t, a, c) >= 0 {
						t.Errorf("the order of %v, %v and %v", a, b, c)
					}
				}
			}
		}
	}
}

func TestSetsAreDeterminedByTheirMembers(t *testing.T) {
	for _, l := range [][]api.Set{subsets(0), subsets(7), sets(64), sets(70), sets(512)} {
		for _, s := range l {
			members, err := bits.Members(s)
			if err != api.OK || !slices.IsSorted(members) || len(members) != bits.Count(s) {
				t.Errorf("Members(%v) = %v, %d", s, members, err)
			}
			got, err := bits.Of(s.N, members)
			checkSet(t, "Of", got, err, s)
		}
	}
}

// P1: no arguments make a function panic, arguments are not changed, and results share no memory
// with them.

func TestAllArguments(t *testing.T) {
	l := append(invalid(), set(0), set(1, 0), set(64, 63), set(70, 3, 65), set(512, 511))
	for _, a := range l {
		for _, i := range indices(64) {
			bits.Has(a, i)
			for _, f := range unaries() {
				if s, err := f(a, i); err != api.OK {
					checkNoSet(t, "With or Without", s, err, err)
				}
			}
			if s, err := bits.Of(a.N, []int{i}); err != api.OK {
				checkNoSet(t, "Of", s, err, err)
			}
		}
		for _, b := range l {
			for _, f := range binaries() {
				if s, err := f(a, b); err != api.OK {
					checkNoSet(t, "Union, Inter or Minus", s, err, err)
				}
			}
			bits.Subset(a, b)
			if order, err := bits.Compare(a, b); err != api.OK && order != 0 {
				t.Errorf("Compare(%v, %v) = %d, %d", a, b, order, err)
			}
		}
	}
}

// checkSeparate tells whether an operation leaves its arguments, and whether they stay as they are
// when the words of the result are changed, also beyond its length.
func checkSeparate(t *testing.T, what string, args []api.Set, f func() api.Set) {
	t.Helper()
	before := make([][]uint64, len(args))
	for k, s := range args {
		before[k] = slices.Clone(s.W[:cap(s.W)])
	}
	result := f()
	for range 2 {
		for k, s := range args {
			if !slices.Equal(before[k], s.W[:cap(s.W)]) {
				t.Errorf("%s changed its argument %v, or shares memory with it", what, s)
			}
		}
		words := result.W[:cap(result.W)]
		for k := range words {
			words[k] = ^words[k]
		}
	}
}

// roomy returns the set with room for more words behind its own.
func roomy(s api.Set) api.Set {
	words := make([]uint64, len(s.W), len(s.W)+4)
	copy(words, s.W)
	return api.Set{N: s.N, W: words}
}

func TestSeparateMemory(t *testing.T) {
	for _, n := range sizes() {
		l := []api.Set{roomy(set(n)), roomy(filter(n, func(i int) bool { return i%3 != 0 }))}
		for _, a := range l {
			for i := range n {
				for _, f := range unaries() {
					checkSeparate(t, "With or Without", []api.Set{a}, func() api.Set {
						s, _ := f(a, i)
						return s
					})
				}
			}
			for _, b := range l {
				for _, f := range binaries() {
					checkSeparate(t, "Union, Inter or Minus", []api.Set{a, b}, func() api.Set {
						s, _ := f(a, b)
						return s
					})
				}
				checkSeparate(t, "Valid, Members, Has, Count, Subset, or Compare", []api.Set{a, b}, func() api.Set {
					bits.Valid(a)
					bits.Members(a)
					bits.Has(a, n-1)
					bits.Count(a)
					bits.Subset(a, b)
					bits.Compare(a, b)
					return api.Set{}
				})
			}
		}
	}
}

func TestSeparateMembers(t *testing.T) {
	list := []int{5, 3, 65, 3}
	s, _ := bits.Of(70, list)
	if !slices.Equal(list, []int{5, 3, 65, 3}) {
		t.Error("Of changed its list")
	}
	list[0] = 7
	members, _ := bits.Members(s)
	members[0] = 9
	again, _ := bits.Members(s)
	if !isEqual(s, set(70, 3, 5, 65)) || !slices.Equal(again, []int{3, 5, 65}) {
		t.Errorf("%v shares memory with a list", s)
	}
	other, _ := bits.Of(70, []int{5, 3, 65, 3})
	other.W[0] = 0
	if !isEqual(s, set(70, 3, 5, 65)) {
		t.Error("two results share memory")
	}
}
