package tests

import (
	"math"
	"slices"
	"testing"

	"loop.example/gridpuzzles/impl"
)

// eachPairMasks visits masks of the sizes 3 and 4 in which a few masks with two values are often met, among any others.
func eachPairMasks(visit func(masks []int, size int)) {
	next := fixedNumbers()
	for size := 3; size <= 4; size++ {
		for turn := range 3000 {
			pairs := make([]int, 1+turn%3)
			for k := range pairs {
				pairs[k] = twoValues(size, next)
			}
			masks := make([]int, size*size)
			for cell := range masks {
				masks[cell] = 2 * next(uint32(power(size)))
				if next(16) < turn%17 {
					masks[cell] = pairs[next(uint32(len(pairs)))]
				}
			}
			visit(masks, size)
		}
	}
}

// twoValues returns a mask with two different values.
func twoValues(size int, next func(limit uint32) int) int {
	first := next(uint32(size))
	second := (first + 1 + next(uint32(size-1))) % size
	return power(1+first) + power(1+second)
}

// eachLineMasks visits masks in which one line has every choice of masks, and all other cells have all values: in size 3 for every line, and in size 4 for one line each time. None of the other lines has a pair then.
func eachLineMasks(visit func(masks []int, size int, line int)) {
	for _, halves := range tuples(3, 0, 7) {
		for line := range 6 {
			visit(withLine(3, line, halves), 3, line)
		}
	}
	next := fixedNumbers()
	for _, halves := range tuples(4, 0, 15) {
		line := next(8)
		visit(withLine(4, line, halves), 4, line)
	}
}

// withLine returns masks with all values, but in a line those with twice the given numbers.
func withLine(size int, line int, halves []int) []int {
	masks := sameMaskEverywhere(size, power(size+1)-2)
	for k, half := range halves {
		cell := line*size + k
		if line >= size {
			cell = k*size + line - size
		}
		masks[cell] = 2 * half
	}
	return masks
}

// samePair tells whether two cells with these masks are a pair.
func samePair(mask int, other int) bool {
	return mask == other && valuesLeft([]int{mask}, 4) == 2
}

// pairsNarrowed goes from every two cells that are a pair to every other cell of their line.
func pairsNarrowed(masks []int, size int) []int {
	narrowed := slices.Clone(masks)
	for b := range masks {
		for a := range b {
			if !samePair(masks[a], masks[b]) {
				continue
			}
			for cell := range masks {
				sameRow := a/size == b/size && a/size == cell/size
				sameColumn := a%size == b%size && a%size == cell%size
				if cell != a && cell != b && (sameRow || sameColumn) {
					narrowed[cell] = withoutValues(narrowed[cell], masks[a])
				}
			}
		}
	}
	return narrowed
}

// withoutValues takes the values of one mask out of another one.
func withoutValues(mask int, taken int) int {
	for value := range 6 {
		if hasValue(mask, value) && hasValue(taken, value) {
			mask -= power(value)
		}
	}
	return mask
}

// mostPairs tells for every size in how many ways two cells of a line can be chosen.
var mostPairs = []int{2: 1, 3: 3, 4: 6}

// pairsAmong counts the pairs two cells at a time.
func pairsAmong(masks []int) int {
	pairs := 0
	for b := range masks {
		for a := range b {
			if samePair(masks[a], masks[b]) {
				pairs++
			}
		}
	}
	return pairs
}

func hasPairs(masks []int, size int) bool {
	for line := range 2 * size {
		if pairsAmong(lineOf(masks, size, line)) > 0 {
			return true
		}
	}
	return false
}

func TestP4IsSound(t *testing.T) {
	checkSound(t, "NarrowPairs", impl.NarrowPairs)
}

// Two solved grids together make many pairs, and neither of them may be lost.
func TestP4TwoSolvedGrids(t *testing.T) {
	for size := 2; size <= 4; size++ {
		solved := solvedGrids(size)
		for b := range solved {
			for a := range b {
				masks := make([]int, size*size)
				addGrid(masks, solved[a])
				addGrid(masks, solved[b])
				narrowed := impl.NarrowPairs(masks, size)
				if !gridInMasks(narrowed, solved[a]) || !gridInMasks(narrowed, solved[b]) || !masksWithin(narrowed, masks) {
					t.Fatalf("%v and %v become %v", solved[a], solved[b], narrowed)
				}
			}
		}
	}
}

// If only the cells of two values of a solved grid are known to have these two, every line has a pair, and no other cell keeps the two values.
func TestP4APairInEveryLine(t *testing.T) {
	for size := 2; size <= 4; size++ {
		all := power(size+1) - 2
		for _, grid := range solvedGrids(size) {
			masks, want := sameMaskEverywhere(size, all), sameMaskEverywhere(size, all-6)
			for cell, value := range grid {
				if value <= 2 {
					masks[cell], want[cell] = 6, 6
				}
			}
			if narrowed := impl.NarrowPairs(masks, size); !slices.Equal(narrowed, want) {
				t.Fatalf("%v of size %d become %v", masks, size, narrowed)
			}
		}
	}
}

func TestP4EveryMasks(t *testing.T) {
	changed := 0
	check := func(masks []int, size int) {
		narrowed := impl.NarrowPairs(masks, size)
		if !slices.Equal(narrowed, pairsNarrowed(masks, size)) {
			t.Fatalf("%v of size %d become %v", masks, size, narrowed)
		}
		if !slices.Equal(narrowed, masks) {
			changed++
		}
	}
	eachTechniqueMasks(check)
	eachPairMasks(check)
	if changed < 3000 {
		t.Errorf("too few masks that change: %d", changed)
	}
}

// A line keeps every order of all values that its masks allow.
func TestP4EveryLine(t *testing.T) {
	orders := [][][]int{3: arrangements(3, 3), 4: arrangements(4, 4)}
	kept := 0
	eachLineMasks(func(masks []int, size int, line int) {
		narrowed := impl.NarrowPairs(masks, size)
		if !slices.Equal(narrowed, pairsNarrowed(masks, size)) {
			t.Fatalf("%v of size %d become %v", masks, size, narrowed)
		}
		before, after := lineOf(masks, size, line), lineOf(narrowed, size, line)
		if slices.Equal(before, after) {
			return
		}
		for _, order := range orders[size] {
			values := make([]int, size)
			for k := range values {
				values[k] = order[k] + 1
			}
			if gridInMasks(before, values) != gridInMasks(after, values) {
				t.Fatalf("%v of size %d become %v and lose %v", masks, size, narrowed, values)
			}
			if gridInMasks(after, values) {
				kept++
			}
		}
	})
	if kept < 100 {
		t.Errorf("too few orders that are kept where masks change: %d", kept)
	}
}

func TestP4WithoutPairs(t *testing.T) {
	without := 0
	check := func(masks []int, size int) {
		if hasPairs(masks, size) {
			return
		}
		without++
		if narrowed := impl.NarrowPairs(masks, size); !slices.Equal(narrowed, masks) {
			t.Fatalf("%v of size %d become %v without pairs", masks, size, narrowed)
		}
	}
	eachTechniqueMasks(check)
	eachPairMasks(check)
	if without < 1000 {
		t.Errorf("too few masks without pairs: %d", without)
	}
}

// A pair of size 2 has no other cells in its line.
func TestP4NothingToTakeInSize2(t *testing.T) {
	eachMasks(func(masks []int, size int) {
		if narrowed := impl.NarrowPairs(masks, size); size == 2 && !slices.Equal(narrowed, masks) {
			t.Errorf("%v become %v", masks, narrowed)
		}
	})
}

func TestP4TurnsWithMasks(t *testing.T) {
	eachPairMasks(func(masks []int, size int) {
		want := turnedMasks(impl.NarrowPairs(masks, size), size)
		if narrowed := impl.NarrowPairs(turnedMasks(masks, size), size); !slices.Equal(narrowed, want) {
			t.Fatalf("%v of size %d, turned, become %v", masks, size, narrowed)
		}
	})
}

func TestP4SomeMasks(t *testing.T) {
	for _, c := range []struct{ masks, want []int }{
		// A pair in each row, and one in each column.
		{[]int{6, 6, 14, 14, 14, 14, 14, 14, 14}, []int{6, 6, 8, 14, 14, 14, 14, 14, 14}},
		{[]int{14, 14, 14, 10, 14, 10, 14, 14, 14}, []int{14, 14, 14, 10, 4, 10, 14, 14, 14}},
		{[]int{14, 14, 14, 14, 14, 14, 14, 12, 12}, []int{14, 14, 14, 14, 14, 14, 2, 12, 12}},
		{[]int{6, 14, 14, 6, 14, 14, 14, 14, 14}, []int{6, 14, 14, 6, 14, 14, 8, 14, 14}},
		{[]int{14, 10, 14, 14, 14, 14, 14, 10, 14}, []int{14, 10, 14, 14, 4, 14, 14, 10, 14}},
		{[]int{14, 14, 14, 14, 14, 12, 14, 14, 12}, []int{14, 14, 2, 14, 14, 12, 14, 14, 12}},
		// A cell in a pair of its row and in one of its column.
		{[]int{6, 6, 14, 6, 14, 14, 14, 14, 14}, []int{6, 6, 8, 6, 14, 14, 8, 14, 14}},
		// The same two values in different lines are no pair.
		{[]int{6, 14, 14, 14, 6, 14, 14, 14, 6}, []int{6, 14, 14, 14, 6, 14, 14, 14, 6}},
		// Two values each, but not the same ones; the same one value; the same three values; no value.
		{[]int{6, 10, 12, 14, 14, 14, 14, 14, 14}, []int{6, 10, 12, 14, 14, 14, 14, 14, 14}},
		{[]int{2, 2, 14, 14, 14, 14, 14, 14, 14}, []int{2, 2, 14, 14, 14, 14, 14, 14, 14}},
		{[]int{0, 0, 14, 14, 14, 14, 14, 14, 14}, []int{0, 0, 14, 14, 14, 14, 14, 14, 14}},
		{[]int{14, 14, 14, 14, 14, 14, 14, 14, 14}, []int{14, 14, 14, 14, 14, 14, 14, 14, 14}},
		// Of three cells with the same two values each one is beside the pair of the other two.
		{[]int{6, 6, 6, 14, 14, 14, 14, 14, 14}, []int{0, 0, 0, 14, 14, 14, 14, 14, 14}},
		{[]int{14, 12, 14, 14, 12, 14, 14, 12, 14}, []int{14, 0, 14, 14, 0, 14, 14, 0, 14}},
		// The other cell has one of the two values, both or none.
		{[]int{6, 6, 2, 14, 14, 14, 14, 14, 14}, []int{6, 6, 0, 14, 14, 14, 14, 14, 14}},
		{[]int{6, 10, 6, 14, 14, 14, 14, 14, 14}, []int{6, 8, 6, 14, 14, 14, 14, 14, 14}},
		{[]int{8, 6, 6, 14, 14, 14, 14, 14, 14}, []int{8, 6, 6, 14, 14, 14, 14, 14, 14}},
		// What the pair of the row leaves in the last column is seen in the next round.
		{[]int{6, 6, 30, 30, 30, 30, 24, 30, 30, 30, 30, 30, 30, 30, 30, 30}, []int{6, 6, 24, 24, 30, 30, 24, 30, 30, 30, 30, 30, 30, 30, 30, 30}},
		{[]int{6, 6, 24, 24, 30, 30, 24, 30, 30, 30, 30, 30, 30, 30, 30, 30}, []int{6, 6, 24, 24, 30, 30, 24, 30, 30, 30, 6, 30, 30, 30, 6, 30}},
		// A cell from which the pair of its column takes a value is a pair in its row all the same.
		{[]int{6, 6, 14, 10, 14, 14, 10, 14, 14}, []int{4, 6, 8, 10, 14, 14, 10, 14, 14}},
		// Two pairs of a line take from each other only what they share.
		{[]int{6, 24, 6, 24, 30, 30, 30, 30, 30, 30, 30, 30, 30, 30, 30, 30}, []int{6, 24, 6, 24, 30, 30, 30, 30, 30, 30, 30, 30, 30, 30, 30, 30}},
		{[]int{6, 10, 6, 10, 30, 30, 30, 30, 30, 30, 30, 30, 30, 30, 30, 30}, []int{4, 8, 4, 8, 30, 30, 30, 30, 30, 30, 30, 30, 30, 30, 30, 30}},
		// The last column of size 4.
		{[]int{30, 30, 30, 18, 30, 30, 30, 30, 30, 30, 30, 26, 30, 30, 30, 18}, []int{30, 30, 30, 18, 30, 30, 30, 12, 30, 30, 30, 8, 30, 30, 30, 18}},
		{sameMaskEverywhere(2, 6), sameMaskEverywhere(2, 6)},
		{sameMaskEverywhere(3, 10), sameMaskEverywhere(3, 0)},
		{sameMaskEverywhere(4, 24), sameMaskEverywhere(4, 0)},
	} {
		if narrowed := impl.NarrowPairs(c.masks, sizeOf(c.masks)); !slices.Equal(narrowed, c.want) {
			t.Errorf("%v become %v", c.masks, narrowed)
		}
	}
}

func TestP4InvalidMasks(t *testing.T) {
	checkRefused(t, "NarrowPairs", impl.NarrowPairs)
}

func TestP40EveryMasks(t *testing.T) {
	with := 0
	check := func(masks []int, size int) {
		for line := range 2 * size {
			pairs := impl.PairsIn(masks, size, line)
			if pairs != pairsAmong(lineOf(masks, size, line)) || pairs < 0 || pairs > mostPairs[size] {
				t.Fatalf("%v of size %d have %d pairs in line %d", masks, size, pairs, line)
			}
			if pairs > 0 {
				with++
			}
		}
	}
	eachTechniqueMasks(check)
	eachPairMasks(check)
	if with < 3000 {
		t.Errorf("too few lines with pairs: %d", with)
	}
}

func TestP40EveryLine(t *testing.T) {
	eachLineMasks(func(masks []int, size int, line int) {
		for other := range 2 * size {
			want := 0
			if other == line {
				want = pairsAmong(lineOf(masks, size, line))
			}
			if pairs := impl.PairsIn(masks, size, other); pairs != want {
				t.Fatalf("%v of size %d have %d pairs in line %d", masks, size, pairs, other)
			}
		}
	})
}

func TestP40SameMasks(t *testing.T) {
	for size := 2; size <= 4; size++ {
		for mask := 0; mask < power(size+1); mask += 2 {
			want := 0
			if samePair(mask, mask) {
				want = mostPairs[size]
			}
			for line := range 2 * size {
				if pairs := impl.PairsIn(sameMaskEverywhere(size, mask), size, line); pairs != want {
					t.Errorf("the mask %d everywhere in size %d: %d pairs in line %d", mask, size, pairs, line)
				}
			}
		}
	}
}

func TestP40SomeLines(t *testing.T) {
	row := []int{6, 14, 6, 2, 14, 14, 10, 6, 10}
	four := []int{24, 24, 6, 6, 24, 24, 24, 30, 24, 0, 6, 30, 24, 2, 2, 30}
	for _, c := range []struct {
		masks []int
		pairs []int
	}{
		{[]int{6, 6, 6, 2}, []int{1, 0, 1, 0}},
		{[]int{6, 2, 4, 6}, []int{0, 0, 0, 0}},
		{[]int{2, 2, 0, 0}, []int{0, 0, 0, 0}},
		{[]int{6, 6, 6, 2, 2, 2, 2, 2, 2}, []int{3, 0, 0, 0, 0, 0}},
		{[]int{6, 6, 14, 14, 14, 14, 14, 14, 14}, []int{1, 0, 0, 0, 0, 0}},
		{[]int{14, 12, 2, 14, 12, 2, 14, 12, 2}, []int{0, 0, 0, 0, 3, 0}},
		{row, []int{1, 0, 1, 0, 0, 0}},
		{turnedMasks(row, 3), []int{0, 0, 0, 1, 0, 1}},
		// Two different pairs in a line are counted together.
		{four, []int{2, 3, 0, 0, 6, 1, 1, 0}},
	} {
		size := sizeOf(c.masks)
		for line, want := range c.pairs {
			if pairs := impl.PairsIn(c.masks, size, line); pairs != want {
				t.Errorf("%v have %d pairs in line %d", c.masks, pairs, line)
			}
		}
	}
}

func TestP40InvalidMasks(t *testing.T) {
	for _, m := range invalidMasks() {
		for line := -1; line <= 8; line++ {
			if pairs := impl.PairsIn(m.masks, m.size, line); pairs != -1 {
				t.Errorf("the invalid %v of size %d have %d pairs in line %d", m.masks, m.size, pairs, line)
			}
		}
	}
	for _, size := range oddSizes {
		if pairs := impl.PairsIn(nil, size, 0); pairs != -1 {
			t.Errorf("nothing of size %d has %d pairs", size, pairs)
		}
	}
	// An invalid mask outside of the line counts, too.
	eachLineMasks(func(masks []int, size int, line int) {
		cell := (line%size+1)*size%len(masks) + (line+1)%size
		masks[cell]++
		if pairs := impl.PairsIn(masks, size, line); pairs != -1 {
			t.Fatalf("the invalid %v of size %d have %d pairs in line %d", masks, size, pairs, line)
		}
	})
}

func TestP40InvalidLines(t *testing.T) {
	for size := 2; size <= 4; size++ {
		for _, mask := range []int{0, 2, 6, power(size+1) - 2} {
			for _, line := range []int{-1, 2 * size, 2*size + 1, 1 << 32, math.MinInt, math.MaxInt} {
				if pairs := impl.PairsIn(sameMaskEverywhere(size, mask), size, line); pairs != -1 {
					t.Errorf("size %d has %d pairs in line %d", size, pairs, line)
				}
			}
		}
	}
}

func TestPairsResultsAreNew(t *testing.T) {
	check := func(masks []int, size int) {
		checkFresh(t, "NarrowPairs", masks, func(masks []int) []int { return impl.NarrowPairs(masks, size) })
		checkFresh(t, "PairsIn", masks, func(masks []int) []int { return []int{impl.PairsIn(masks, size, size)} })
	}
	eachMasks(check)
	eachPairMasks(check)
}
