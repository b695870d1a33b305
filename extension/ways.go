package extension

import (
	"antecede/api"
	"antecede/bits"
	"antecede/poset"
)

// key is the bits of an ideal.
type key [api.MaxSet / 64]uint64

// ways tells, for each ideal of an order, in how many ways an extension that begins with it can go on.
// Other sets have none.
type ways map[key]int

// tooMany stands for all numbers of ways beyond MaxNumber, so that no sum overflows.
const tooMany = api.MaxNumber + 1

// waysOf returns the ways of the order p. It goes from the greatest ideal down, level by level, because
// the ways of an ideal are those of all that have one element more.
func waysOf(p api.Relation) (ways, api.Errno) {
	if !poset.Valid(p) {
		return nil, api.ErrArg
	}
	all := whole(len(p.Rows))
	w := ways{keyOf(all): 1}
	for level := []api.Set{all}; len(level) > 0; {
		var below []api.Set
		for _, ideal := range level {
			rest, _ := bits.Minus(all, ideal)
			below = append(below, w.shrink(p, ideal, rest)...)
			if len(w) > api.MaxCuts {
				return nil, api.ErrBudget
			}
		}
		level = below
	}
	if w.total() == tooMany {
		return nil, api.ErrBig
	}
	return w, api.OK
}

// shrink adds the ways of an ideal of p to those of all that have one element less, and returns those
// of them that were not known. The rest are the elements that are not in the ideal.
func (w ways) shrink(p api.Relation, ideal, rest api.Set) []api.Set {
	var found []api.Set
	count := w[keyOf(ideal)]
	members, _ := bits.Members(ideal)
	for _, i := range members {
		if !bits.Subset(p.Rows[i], rest) {
			continue
		}
		smaller, _ := bits.Without(ideal, i)
		k := keyOf(smaller)
		if w[k] == 0 {
			found = append(found, smaller)
		}
		w[k] = min(w[k]+count, tooMany)
	}
	return found
}

// with returns the ways of what was placed and the element i besides, and 0 if i cannot follow.
func (w ways) with(placed api.Set, i int) int {
	if bits.Has(placed, i) {
		return 0
	}
	longer, _ := bits.With(placed, i)
	return w[keyOf(longer)]
}

// total returns the ways of the empty ideal.
func (w ways) total() int {
	return w[key{}]
}

func keyOf(s api.Set) key {
	var k key
	copy(k[:], s.W)
	return k
}
