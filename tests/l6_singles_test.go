package tests

import (
	"slices"
	"testing"

	"loop.example/gridpuzzles/impl"
)

// eachMasksAround visits masks that have one or some solved grids, and more values besides.
func eachMasksAround(visit func(masks []int, size int)) {
	next := fixedNumbers()
	for size := 2; size <= 4; size++ {
		solved := solvedGrids(size)
		for turn := range 1200 {
			masks := make([]int, size*size)
			for range 1 + turn%3 {
				addGrid(masks, solved[next(uint32(len(solved)))])
			}
			addValues(masks, size, turn%17, next)
			visit(masks, size)
		}
	}
}

// addGrid puts the values of a full grid into masks.
func addGrid(masks []int, grid []int) {
	for cell, value := range grid {
		if !hasValue(masks[cell], value) {
			masks[cell] += power(value)
		}
	}
}

// addValues puts about so many sixteenths of all other values into masks.
func addValues(masks []int, size int, density int, next func(limit uint32) int) {
	for cell := range masks {
		for value := 1; value <= size; value++ {
			if next(16) < density && !hasValue(masks[cell], value) {
				masks[cell] += power(value)
			}
		}
	}
}

// eachTechniqueMasks visits any masks, and those for which solved grids are known.
func eachTechniqueMasks(visit func(masks []int, size int)) {
	eachMasks(visit)
	eachMasksAround(visit)
}

// singlesNarrowed asks for every value of every cell whether another cell takes it.
func singlesNarrowed(masks []int, size int) []int {
	narrowed := make([]int, len(masks))
	for cell := range masks {
		for value := 1; value <= size; value++ {
			if hasValue(masks[cell], value) && !takenByAnother(masks, size, cell, value) {
				narrowed[cell] += power(value)
			}
		}
	}
	return narrowed
}

func takenByAnother(masks []int, size int, cell int, value int) bool {
	for other := range masks {
		sameLine := cell/size == other/size || cell%size == other%size
		if other != cell && sameLine && masks[other] == power(value) {
			return true
		}
	}
	return false
}

// hiddenNarrowed asks for every value of every cell whether the cell must have a different one.
func hiddenNarrowed(masks []int, size int) []int {
	narrowed := make([]int, len(masks))
	for cell := range masks {
		for value := 1; value <= size; value++ {
			if hasValue(masks[cell], value) && !neededForDifferent(masks, size, cell, value) {
				narrowed[cell] += power(value)
			}
		}
	}
	return narrowed
}

// neededForDifferent tells whether a cell is the only place of a value other than this one, in its row or in its column.
func neededForDifferent(masks []int, size int, cell int, value int) bool {
	for needed := 1; needed <= size; needed++ {
		if needed == value || !hasValue(masks[cell], needed) {
			continue
		}
		inRow, inColumn := 0, 0
		for other, mask := range masks {
			if hasValue(mask, needed) && other/size == cell/size {
				inRow++
			}
			if hasValue(mask, needed) && other%size == cell%size {
				inColumn++
			}
		}
		if inRow == 1 || inColumn == 1 {
			return true
		}
	}
	return false
}

// gridInMasks tells whether a full grid has only values of masks.
func gridInMasks(masks []int, grid []int) bool {
	for cell, value := range grid {
		if !hasValue(masks[cell], value) {
			return false
		}
	}
	return true
}

// masksWithin tells whether masks have only values of others.
func masksWithin(masks []int, others []int) bool {
	for cell, mask := range masks {
		for value := range 6 {
			if hasValue(mask, value) && !hasValue(others[cell], value) {
				return false
			}
		}
	}
	return len(masks) == len(others)
}

// checkSound fails if a technique loses a solved grid or brings in a value.
func checkSound(t *testing.T, name string, technique func(masks []int, size int) []int) {
	t.Helper()
	lists := [5][][]int{2: solvedGrids(2), 3: solvedGrids(3), 4: solvedGrids(4)}
	kept, changed := 0, 0
	eachTechniqueMasks(func(masks []int, size int) {
		narrowed := technique(masks, size)
		if !impl.MasksValid(narrowed, size) || !masksWithin(narrowed, masks) {
			t.Fatalf("%s: %v of size %d become %v", name, masks, size, narrowed)
		}
		for _, grid := range lists[size] {
			if !gridInMasks(masks, grid) {
				continue
			}
			if !gridInMasks(narrowed, grid) {
				t.Fatalf("%s: %v of size %d lose %v", name, masks, size, grid)
			}
			kept++
			if !slices.Equal(masks, narrowed) {
				changed++
			}
		}
	})
	if kept < 10000 || changed < 1000 {
		t.Errorf("%s: too few grids (%d) that are kept, or where masks change (%d)", name, kept, changed)
	}
}

// checkRefused fails if a technique has a result for invalid masks.
func checkRefused(t *testing.T, name string, technique func(masks []int, size int) []int) {
	t.Helper()
	for _, m := range invalidMasks() {
		if narrowed := technique(m.masks, m.size); len(narrowed) != 0 {
			t.Errorf("%s: %v of size %d become %v", name, m.masks, m.size, narrowed)
		}
	}
	for _, size := range oddSizes {
		for _, masks := range [][]int{nil, {2}, {2, 4, 6, 0}} {
			if narrowed := technique(masks, size); len(narrowed) != 0 {
				t.Errorf("%s: %v of size %d become %v", name, masks, size, narrowed)
			}
		}
	}
	eachMasksAround(func(masks []int, size int) {
		cell := len(masks) - 1
		for _, wrong := range []int{masks[cell] + 1, masks[cell] + power(size+1), -masks[cell] - 2} {
			other := slices.Clone(masks)
			other[cell] = wrong
			if narrowed := technique(other, size); len(narrowed) != 0 {
				t.Fatalf("%s: %v of size %d become %v", name, other, size, narrowed)
			}
		}
		if narrowed := technique(masks[:cell], size); len(narrowed) != 0 {
			t.Fatalf("%s: %v of size %d become %v", name, masks[:cell], size, narrowed)
		}
	})
}

func TestP2IsSound(t *testing.T) {
	checkSound(t, "NarrowSingles", impl.NarrowSingles)
}

func TestP2EveryMasks(t *testing.T) {
	eachTechniqueMasks(func(masks []int, size int) {
		if narrowed := impl.NarrowSingles(masks, size); !slices.Equal(narrowed, singlesNarrowed(masks, size)) {
			t.Fatalf("%v of size %d become %v", masks, size, narrowed)
		}
	})
}

func TestP2SomeMasks(t *testing.T) {
	for _, c := range []struct{ masks, want []int }{
		{[]int{2, 6, 6, 6}, []int{2, 4, 4, 6}},
		{[]int{6, 6, 6, 4}, []int{6, 2, 2, 4}},
		// Two cells of a line with the same value take it away from each other.
		{[]int{2, 2, 6, 6}, []int{0, 0, 4, 4}},
		{[]int{4, 4, 4, 4}, []int{0, 0, 0, 0}},
		{[]int{2, 4, 4, 2}, []int{2, 4, 4, 2}},
		// Cells without any value take nothing away, and get nothing.
		{[]int{0, 6, 6, 6}, []int{0, 6, 6, 6}},
		{[]int{0, 0, 0, 0}, []int{0, 0, 0, 0}},
		{[]int{0, 2, 0, 6}, []int{0, 2, 0, 4}},
		{[]int{6, 6, 6, 6}, []int{6, 6, 6, 6}},
		// What has become the only value in this round is taken away in the next one.
		{[]int{2, 6, 14, 14, 14, 14, 14, 14, 14}, []int{2, 4, 12, 12, 14, 14, 12, 14, 14}},
		{[]int{2, 4, 12, 12, 14, 14, 12, 14, 14}, []int{2, 4, 8, 12, 10, 14, 12, 10, 14}},
		// A value that is taken away in this round is still the only one in it.
		{[]int{2, 14, 2, 14, 14, 14, 14, 14, 14}, []int{0, 12, 0, 12, 14, 12, 12, 14, 12}},
		{[]int{14, 14, 14, 14, 8, 14, 14, 14, 14}, []int{14, 6, 14, 6, 8, 6, 14, 6, 14}},
		{[]int{30, 30, 30, 30, 30, 30, 30, 16, 30, 30, 30, 30, 2, 30, 30, 30}, []int{28, 30, 30, 14, 12, 14, 14, 16, 28, 30, 30, 14, 2, 28, 28, 12}},
	} {
		if narrowed := impl.NarrowSingles(c.masks, sizeOf(c.masks)); !slices.Equal(narrowed, c.want) {
			t.Errorf("%v become %v", c.masks, narrowed)
		}
	}
}

// sizeOf returns the size of the grids with as many cells.
func sizeOf(cells []int) int {
	return []int{4: 2, 9: 3, 16: 4}[len(cells)]
}

func TestP2InvalidMasks(t *testing.T) {
	checkRefused(t, "NarrowSingles", impl.NarrowSingles)
}

func TestP3IsSound(t *testing.T) {
	checkSound(t, "NarrowHidden", impl.NarrowHidden)
}

func TestP3EveryMasks(t *testing.T) {
	eachTechniqueMasks(func(masks []int, size int) {
		if narrowed := impl.NarrowHidden(masks, size); !slices.Equal(narrowed, hiddenNarrowed(masks, size)) {
			t.Fatalf("%v of size %d become %v", masks, size, narrowed)
		}
	})
}

func TestP3SomeMasks(t *testing.T) {
	for _, c := range []struct{ masks, want []int }{
		// 2 has one place in the first row and one in the second column; what this leaves in the first column is seen in the next round.
		{[]int{6, 2, 6, 6}, []int{4, 2, 6, 4}},
		{[]int{4, 2, 6, 4}, []int{4, 2, 2, 4}},
		{[]int{6, 6, 6, 6}, []int{6, 6, 6, 6}},
		{[]int{2, 4, 4, 2}, []int{2, 4, 4, 2}},
		// A value without any place says nothing.
		{[]int{2, 2, 2, 2}, []int{2, 2, 2, 2}},
		{[]int{0, 0, 0, 0}, []int{0, 0, 0, 0}},
		// The only place of both values of a line has none left.
		{[]int{6, 0, 0, 0}, []int{0, 0, 0, 0}},
		{[]int{6, 0, 6, 6}, []int{0, 0, 6, 0}},
		// The only place of a value in the row, and of another one in the column.
		{[]int{6, 4, 2, 6}, []int{0, 4, 2, 0}},
		// The value 3 has one place in the first row.
		{[]int{6, 14, 6, 14, 14, 14, 14, 14, 14}, []int{6, 8, 6, 14, 14, 14, 14, 14, 14}},
		// The value 2 has one place in the last column.
		{[]int{14, 14, 14, 14, 14, 10, 14, 14, 10}, []int{14, 14, 4, 14, 14, 10, 14, 14, 10}},
		// One place in the row and in the column alike.
		{[]int{14, 12, 12, 12, 14, 14, 12, 14, 14}, []int{2, 12, 12, 12, 14, 14, 12, 14, 14}},
		// Three values with the same only place.
		{[]int{14, 0, 0, 14, 14, 14, 14, 14, 14}, []int{0, 0, 0, 14, 14, 14, 14, 14, 14}},
		{[]int{30, 30, 30, 30, 14, 14, 30, 14, 30, 30, 30, 30, 30, 30, 30, 30}, []int{30, 30, 30, 30, 14, 14, 16, 14, 30, 30, 30, 30, 30, 30, 30, 30}},
	} {
		if narrowed := impl.NarrowHidden(c.masks, sizeOf(c.masks)); !slices.Equal(narrowed, c.want) {
			t.Errorf("%v become %v", c.masks, narrowed)
		}
	}
}

func TestP3InvalidMasks(t *testing.T) {
	checkRefused(t, "NarrowHidden", impl.NarrowHidden)
}

func TestP37EveryPuzzle(t *testing.T) {
	eachPuzzle(func(p impl.Puzzle, solutions [][]int) {
		checkStart(t, p)
		masks := impl.StartMasks(p)
		for _, solution := range solutions {
			if !impl.MasksHave(masks, p.Size, solution) || !gridInMasks(masks, solution) {
				t.Fatalf("%v begins with %v, without its solution %v", p, masks, solution)
			}
		}
	})
	eachSmallPuzzle(func(p impl.Puzzle) { checkStart(t, p) })
}

func TestP37EveryGrid(t *testing.T) {
	eachGrid(func(grid []int, size int) { checkStart(t, impl.Puzzle{Size: size, Given: grid}) })
}

func checkStart(t *testing.T, p impl.Puzzle) {
	t.Helper()
	masks := impl.StartMasks(p)
	if !impl.MasksValid(masks, p.Size) {
		t.Fatalf("%v begins with the invalid %v", p, masks)
	}
	for cell, given := range p.Given {
		for value := 1; value <= p.Size; value++ {
			if hasValue(masks[cell], value) != (given == 0 || given == value) {
				t.Fatalf("%v begins with %v", p, masks)
			}
		}
	}
}

func TestP37SomePuzzles(t *testing.T) {
	sum := []impl.Rule{{Kind: impl.RuleSum, Cells: []int{3}, Value: 1}}
	for _, c := range []struct {
		p    impl.Puzzle
		want []int
	}{
		{impl.Puzzle{Size: 2, Given: []int{0, 2, 0, 0}}, []int{6, 4, 6, 6}},
		{impl.Puzzle{Size: 2, Given: []int{0, 0, 0, 0}}, []int{6, 6, 6, 6}},
		{impl.Puzzle{Size: 2, Given: []int{1, 2, 2, 1}}, []int{2, 4, 4, 2}},
		// What is given twice in a line is taken as it is.
		{impl.Puzzle{Size: 2, Given: []int{1, 1, 1, 0}}, []int{2, 2, 2, 6}},
		// Rules do not matter, not even those that leave no solution.
		{impl.Puzzle{Size: 2, Given: []int{0, 2, 0, 0}, Rules: sum}, []int{6, 4, 6, 6}},
		{impl.Puzzle{Size: 2, Given: []int{0, 0, 0, 2}, Rules: sum}, []int{6, 6, 6, 4}},
		{impl.Puzzle{Size: 3, Given: []int{3, 0, 0, 0, 2, 0, 0, 0, 1}}, []int{8, 14, 14, 14, 4, 14, 14, 14, 2}},
		{impl.Puzzle{Size: 4, Given: []int{0, 0, 0, 0, 1, 2, 3, 4, 0, 0, 0, 0, 0, 0, 0, 4}}, []int{30, 30, 30, 30, 2, 4, 8, 16, 30, 30, 30, 30, 30, 30, 30, 16}},
	} {
		if masks := impl.StartMasks(c.p); !slices.Equal(masks, c.want) {
			t.Errorf("%v begins with %v", c.p, masks)
		}
	}
}

func TestP37InvalidPuzzles(t *testing.T) {
	for _, p := range invalidPuzzles() {
		if masks := impl.StartMasks(p); len(masks) != 0 {
			t.Fatalf("the invalid %v begins with %v", p, masks)
		}
	}
}

// valuesLeft counts the values of masks one by one.
func valuesLeft(masks []int, size int) int {
	count := 0
	for _, mask := range masks {
		for value := 1; value <= size; value++ {
			if hasValue(mask, value) {
				count++
			}
		}
	}
	return count
}

func TestP38EveryMasks(t *testing.T) {
	eachTechniqueMasks(func(masks []int, size int) {
		count := impl.MasksCount(masks, size)
		if count != valuesLeft(masks, size) {
			t.Fatalf("%v of size %d have %d values", masks, size, count)
		}
		if count < 0 || count > size*size*size {
			t.Fatalf("%v of size %d have %d values, more than each value in each cell", masks, size, count)
		}
	})
}

func TestP38MasksWithinOthers(t *testing.T) {
	next := fixedNumbers()
	eachTechniqueMasks(func(masks []int, size int) {
		count := impl.MasksCount(masks, size)
		cell, value := next(uint32(size*size)), 1+next(uint32(size))
		less := slices.Clone(masks)
		if hasValue(less[cell], value) {
			less[cell] -= power(value)
			if got := impl.MasksCount(less, size); got != count-1 {
				t.Fatalf("%v of size %d have %d values, and %d after one less", masks, size, count, got)
			}
		}
		for _, narrowed := range [][]int{impl.NarrowSingles(masks, size), impl.NarrowHidden(masks, size), impl.NarrowPairs(masks, size)} {
			got := impl.MasksCount(narrowed, size)
			if got > count || (got == count) != slices.Equal(masks, narrowed) {
				t.Fatalf("%v of size %d have %d values, and %v within them %d", masks, size, count, narrowed, got)
			}
		}
	})
}

func TestP38SomeMasks(t *testing.T) {
	for _, c := range []struct {
		masks []int
		want  int
	}{
		{[]int{2, 6, 6, 6}, 7},
		{[]int{0, 0, 0, 0}, 0},
		{[]int{6, 6, 6, 6}, 8},
		{[]int{4, 0, 0, 2}, 2},
		{sameMaskEverywhere(3, 14), 27},
		{[]int{0, 2, 4, 6, 8, 10, 12, 14, 8}, 13},
		{sameMaskEverywhere(4, 30), 64},
		{sameMaskEverywhere(4, 16), 16},
		{[]int{0, 2, 4, 6, 8, 10, 12, 14, 16, 18, 20, 22, 24, 26, 28, 30}, 32},
	} {
		if got := impl.MasksCount(c.masks, sizeOf(c.masks)); got != c.want {
			t.Errorf("%v have %d values", c.masks, got)
		}
	}
}

func TestP38InvalidMasks(t *testing.T) {
	for _, m := range invalidMasks() {
		if got := impl.MasksCount(m.masks, m.size); got != -1 {
			t.Errorf("%v of size %d have %d values", m.masks, m.size, got)
		}
	}
	for _, size := range oddSizes {
		if got := impl.MasksCount(nil, size); got != -1 {
			t.Errorf("nothing of size %d has %d values", size, got)
		}
	}
}

// fullGrids lists all grids of size 2 without empty cells.
func fullGrids() [][]int {
	return tuples(4, 1, 2)
}

func TestP39SmallMasks(t *testing.T) {
	eachMasks(func(masks []int, size int) {
		if size != 2 {
			return
		}
		everyGrid(2, func(grid []int, size int) {
			want := !slices.Contains(grid, 0) && gridInMasks(masks, grid)
			if impl.MasksHave(masks, 2, grid) != want {
				t.Fatalf("%v have %v: %v", masks, grid, !want)
			}
		})
	})
}

func TestP39EveryMasks(t *testing.T) {
	lists := [5][][]int{2: solvedGrids(2), 3: solvedGrids(3), 4: solvedGrids(4)}
	with, without := 0, 0
	eachTechniqueMasks(func(masks []int, size int) {
		for _, grid := range lists[size] {
			want := gridInMasks(masks, grid)
			if impl.MasksHave(masks, size, grid) != want {
				t.Fatalf("%v of size %d have %v: %v", masks, size, grid, !want)
			}
			if want {
				with++
			} else {
				without++
			}
		}
	})
	if with < 10000 || without < 10000 {
		t.Errorf("too few grids that masks have (%d) or have not (%d)", with, without)
	}
}

// The values of a full grid alone have this grid, and no other one; the grid need not be solved, or even fit.
func TestP39ValuesAlone(t *testing.T) {
	full := 0
	eachSquare(func(grid []int, size int) {
		if slices.Contains(grid, 0) {
			return
		}
		full++
		masks := make([]int, len(grid))
		addGrid(masks, grid)
		if !impl.MasksHave(masks, size, grid) {
			t.Fatalf("%v of size %d have not %v", masks, size, grid)
		}
		for cell, value := range grid {
			for other := range size + 1 {
				grid[cell] = other
				if impl.MasksHave(masks, size, grid) != (other == value) {
					t.Fatalf("%v of size %d have %v: %v", masks, size, grid, other != value)
				}
			}
			grid[cell] = value
		}
	})
	if full < 1000 {
		t.Errorf("too few full grids: %d", full)
	}
}

func TestP39MasksWithinOthers(t *testing.T) {
	var all [][]int
	var counts []int
	eachMasks(func(masks []int, size int) {
		if size != 2 {
			return
		}
		count := 0
		for _, grid := range fullGrids() {
			if impl.MasksHave(masks, 2, grid) {
				count++
			}
		}
		all, counts = append(all, masks), append(counts, count)
	})
	for a, masks := range all {
		for b, others := range all {
			if masksWithin(masks, others) && counts[a] > counts[b] {
				t.Fatalf("%v have %d grids, and %v %d", masks, counts[a], others, counts[b])
			}
		}
	}
	if slices.Max(counts) != 16 || slices.Min(counts) != 0 {
		t.Errorf("from %d to %d grids", slices.Min(counts), slices.Max(counts))
	}
}

func TestP39SomeGrids(t *testing.T) {
	for _, c := range []struct {
		masks, grid []int
		want        bool
	}{
		{[]int{2, 6, 6, 6}, []int{1, 2, 2, 1}, true},
		{[]int{2, 6, 6, 6}, []int{2, 1, 1, 2}, false},
		{[]int{2, 6, 6, 6}, []int{1, 1, 1, 1}, true},
		{[]int{2, 6, 6, 6}, []int{1, 2, 2, 0}, false},
		{[]int{2, 6, 6, 6}, []int{0, 0, 0, 0}, false},
		{[]int{0, 0, 0, 0}, []int{0, 0, 0, 0}, false},
		{[]int{2, 6, 6, 0}, []int{1, 2, 2, 1}, false},
		{[]int{2, 6, 6, 0}, []int{1, 2, 2, 0}, false},
		{sameMaskEverywhere(3, 14), []int{1, 2, 3, 2, 3, 1, 3, 1, 2}, true},
		{sameMaskEverywhere(3, 6), []int{1, 2, 3, 2, 3, 1, 3, 1, 2}, false},
		{sameMaskEverywhere(4, 30), []int{4, 4, 4, 4, 4, 4, 4, 4, 4, 4, 4, 4, 4, 4, 4, 4}, true},
		{sameMaskEverywhere(4, 14), []int{1, 1, 1, 1, 1, 1, 1, 1, 1, 1, 1, 1, 1, 1, 1, 4}, false},
	} {
		if got := impl.MasksHave(c.masks, sizeOf(c.masks), c.grid); got != c.want {
			t.Errorf("%v have %v: %v", c.masks, c.grid, got)
		}
	}
}

func TestP39InvalidArguments(t *testing.T) {
	for _, m := range invalidMasks() {
		for _, grid := range append(gridsFor(m.size), impl.SquareOf(m.size), m.masks) {
			if impl.MasksHave(m.masks, m.size, grid) {
				t.Errorf("the invalid %v of size %d have %v", m.masks, m.size, grid)
			}
		}
	}
	for size := 2; size <= 4; size++ {
		masks := sameMaskEverywhere(size, power(size+1)-2)
		for _, g := range invalidGrids() {
			// A grid that is invalid for its own size may be valid for this one.
			want := impl.GridValid(g.grid, size) && !slices.Contains(g.grid, 0)
			if impl.MasksHave(masks, size, g.grid) != want {
				t.Errorf("%v of size %d have %v: %v", masks, size, g.grid, !want)
			}
		}
		for other := 2; other <= 4; other++ {
			if impl.MasksHave(masks, size, impl.SquareOf(other)) != (other == size) {
				t.Errorf("masks of size %d and a grid of size %d", size, other)
			}
			if other != size && impl.MasksHave(masks, other, impl.SquareOf(other)) {
				t.Errorf("masks of size %d are taken for those of size %d", size, other)
			}
		}
	}
	for _, size := range oddSizes {
		if impl.MasksHave(nil, size, nil) {
			t.Errorf("nothing of size %d has nothing", size)
		}
	}
}

func TestP114FirstRound(t *testing.T) {
	fitting := 0
	eachSquare(func(grid []int, size int) {
		if !impl.SquareFits(grid, size) {
			return
		}
		fitting++
		checkFirstRound(t, impl.Puzzle{Size: size, Given: grid})
	})
	if fitting < 1000 {
		t.Errorf("too few grids that fit: %d", fitting)
	}
}

func checkFirstRound(t *testing.T, p impl.Puzzle) {
	t.Helper()
	narrowed, candidates := impl.NarrowSingles(impl.StartMasks(p), p.Size), impl.CandidatesOf(p.Given, p.Size)
	if !slices.Equal(narrowed, candidates) || !slices.Equal(narrowed, candidatesOf(p.Given, p.Size)) {
		t.Fatalf("%v has the candidates %v, and %v after a round", p, candidates, narrowed)
	}
}

// The rules of a puzzle change nothing in the masks of its first round.
func TestP114FirstRoundOfPuzzles(t *testing.T) {
	eachPuzzle(func(p impl.Puzzle, solutions [][]int) {
		if impl.SquareFits(p.Given, p.Size) {
			checkFirstRound(t, p)
		}
	})
}

func TestP114SomeGrids(t *testing.T) {
	for _, c := range []struct{ given, want []int }{
		{[]int{1, 0, 0, 0}, []int{2, 4, 4, 6}},
		{[]int{0, 0, 0, 0}, []int{6, 6, 6, 6}},
		{[]int{1, 2, 2, 1}, []int{2, 4, 4, 2}},
		{[]int{0, 1, 2, 0}, []int{0, 2, 4, 0}},
		{[]int{1, 2, 0, 0, 0, 3, 0, 0, 0}, []int{2, 4, 0, 4, 2, 8, 12, 10, 6}},
		{[]int{1, 2, 3, 0, 0, 0, 0, 4, 0, 0, 0, 0, 0, 0, 0, 0}, []int{2, 4, 8, 0, 12, 10, 6, 16, 28, 26, 22, 14, 28, 26, 22, 14}},
		// What is given twice in a line does not fit, and is lost.
		{[]int{1, 1, 0, 0}, []int{0, 0, 4, 4}},
		{[]int{3, 0, 0, 0, 0, 0, 3, 0, 0}, []int{0, 6, 6, 6, 14, 14, 0, 6, 6}},
	} {
		size := sizeOf(c.given)
		if masks := impl.NarrowSingles(impl.StartMasks(impl.Puzzle{Size: size, Given: c.given}), size); !slices.Equal(masks, c.want) {
			t.Errorf("%v: %v after a round", c.given, masks)
		}
	}
}

func TestP114InvalidGrids(t *testing.T) {
	for _, g := range invalidGrids() {
		masks := impl.StartMasks(impl.Puzzle{Size: g.size, Given: g.grid})
		if narrowed := impl.NarrowSingles(masks, g.size); len(narrowed) != 0 {
			t.Errorf("%v of size %d: %v after a round", g.grid, g.size, narrowed)
		}
	}
}

func TestSinglesResultsAreNew(t *testing.T) {
	visited := 0
	eachTechniqueMasks(func(masks []int, size int) {
		visited++
		if visited%7 != 0 {
			return
		}
		grid := impl.SquareOf(size)
		checkFresh(t, "NarrowSingles", masks, func(masks []int) []int { return impl.NarrowSingles(masks, size) })
		checkFresh(t, "NarrowHidden", masks, func(masks []int) []int { return impl.NarrowHidden(masks, size) })
		checkFresh(t, "MasksCount", masks, func(masks []int) []int { return []int{impl.MasksCount(masks, size)} })
		checkFresh(t, "MasksHave", masks, func(masks []int) []int { return truth(impl.MasksHave(masks, size, grid)) })
		checkFresh(t, "MasksHave", grid, func(grid []int) []int { return truth(impl.MasksHave(masks, size, grid)) })
	})
	eachPuzzle(func(p impl.Puzzle, solutions [][]int) {
		checkFresh(t, "StartMasks", p.Given, func(given []int) []int {
			return impl.StartMasks(impl.Puzzle{Size: p.Size, Given: given, Rules: p.Rules})
		})
	})
}

// Masks of which no technique takes anything away are returned in new memory, too.
func TestUnchangedMasksAreNew(t *testing.T) {
	for size := 2; size <= 4; size++ {
		for _, masks := range [][]int{sameMaskEverywhere(size, 0), sameMaskEverywhere(size, power(size+1)-2)} {
			checkFresh(t, "NarrowSingles", masks, func(masks []int) []int { return impl.NarrowSingles(masks, size) })
			checkFresh(t, "NarrowHidden", masks, func(masks []int) []int { return impl.NarrowHidden(masks, size) })
		}
	}
}
