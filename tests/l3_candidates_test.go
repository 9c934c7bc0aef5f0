package tests

import (
	"math"
	"slices"
	"testing"

	"loop.example/gridpuzzles/impl"
)

type sizedMasks struct {
	masks []int
	size  int
}

// invalidMasks names every way in which masks can be invalid, with sizes whose squares wrap around to the number of masks among them.
func invalidMasks() []sizedMasks {
	return []sizedMasks{
		{nil, 2},
		{[]int{}, 0},
		{nil, math.MinInt},
		{nil, 1 << 32},
		{[]int{2}, 1},
		{[]int{2}, -1},
		{[]int{2}, math.MaxInt},
		{[]int{2, 4, 6, 0}, -2},
		{[]int{2, 4, 6, 0}, math.MinInt + 2},
		{[]int{2, 4, 6, 0}, 3},
		{[]int{2, 4, 6, 0}, 4},
		{make([]int, 9), 2},
		{make([]int, 16), 3},
		{make([]int, 25), 5},
		{[]int{2, 4, 6}, 2},
		{[]int{2, 4, 6, 0, 0}, 2},
		{[]int{1, 4, 6, 0}, 2},
		{[]int{2, 4, 6, 7}, 2},
		{[]int{2, 4, 6, 8}, 2},
		{[]int{10, 4, 6, 0}, 2},
		{[]int{2, -2, 6, 0}, 2},
		{[]int{2, 4, 6, math.MinInt}, 2},
		{[]int{2, 4, 6, math.MaxInt}, 2},
		{[]int{2, 4, 1 << 32, 0}, 2},
		{[]int{2, 4, 8, 4, 8, 2, 8, 2, 16}, 3},
		{[]int{2, 4, 8, 4, 9, 2, 8, 2, 4}, 3},
		{[]int{2, 4, 8, 16, 4, 8, 16, 2, 8, 16, 2, 4, 16, 2, 4, 32}, 4},
		{[]int{31, 4, 8, 16, 4, 8, 16, 2, 8, 16, 2, 4, 16, 2, 4, 8}, 4},
	}
}

// eachMasks visits all valid masks of size 2, and of the sizes 3 and 4 those with the same mask everywhere and a fixed selection.
func eachMasks(visit func(masks []int, size int)) {
	for number := range 256 {
		visit([]int{number % 4 * 2, number / 4 % 4 * 2, number / 16 % 4 * 2, number / 64 * 2}, 2)
	}
	next := fixedNumbers()
	for size := 3; size <= 4; size++ {
		for mask := 0; mask < power(size+1); mask += 2 {
			visit(slices.Repeat([]int{mask}, size*size), size)
		}
		for range 2000 {
			masks := make([]int, size*size)
			for cell := range masks {
				masks[cell] = 2 * next(uint32(power(size)))
			}
			visit(masks, size)
		}
	}
}

func power(value int) int {
	result := 1
	for range value {
		result *= 2
	}
	return result
}

func hasValue(mask int, value int) bool {
	return mask/power(value)%2 == 1
}

// candidatesOf compares every cell with every other one, and counts nothing.
func candidatesOf(grid []int, size int) []int {
	masks := make([]int, len(grid))
	for cell, own := range grid {
		for value := 1; value <= size; value++ {
			if own == value || own == 0 && !standsInLineWith(grid, size, cell, value) {
				masks[cell] += power(value)
			}
		}
	}
	return masks
}

func standsInLineWith(grid []int, size int, cell int, value int) bool {
	for other := range grid {
		sameLine := cell/size == other/size || cell%size == other%size
		if sameLine && grid[other] == value {
			return true
		}
	}
	return false
}

func turnedMasks(masks []int, size int) []int {
	turned := make([]int, len(masks))
	for cell, mask := range masks {
		row, column := cell/size, cell%size
		turned[column*size+size-1-row] = mask
	}
	return turned
}

func TestP25EveryGrid(t *testing.T) {
	eachSquare(func(grid []int, size int) {
		masks := impl.CandidatesOf(grid, size)
		if !slices.Equal(masks, candidatesOf(grid, size)) {
			t.Fatalf("%v of size %d: %v", grid, size, masks)
		}
		if !impl.MasksValid(masks, size) {
			t.Fatalf("%v of size %d: the masks %v are invalid", grid, size, masks)
		}
	})
}

func TestP25FittingGridsFitWithCandidatesAlone(t *testing.T) {
	eachSquare(func(grid []int, size int) {
		if !impl.SquareFits(grid, size) {
			return
		}
		masks := impl.CandidatesOf(grid, size)
		for cell := range grid {
			if grid[cell] != 0 {
				continue
			}
			for value := 1; value <= size; value++ {
				grid[cell] = value
				if impl.SquareFits(grid, size) != hasValue(masks[cell], value) {
					t.Fatalf("%v of size %d: the candidates in cell %d were %d", grid, size, cell, masks[cell])
				}
			}
			grid[cell] = 0
		}
	})
}

func TestP25FilledCellsHaveTheirValueAlone(t *testing.T) {
	eachSquare(func(grid []int, size int) {
		masks := impl.CandidatesOf(grid, size)
		for cell, value := range grid {
			if value != 0 && masks[cell] != power(value) {
				t.Fatalf("%v of size %d, cell %d: %d", grid, size, cell, masks[cell])
			}
		}
	})
}

func TestP25SomeGrids(t *testing.T) {
	for _, c := range []struct {
		grid  []int
		size  int
		masks []int
	}{
		{[]int{0, 0, 0, 0}, 2, []int{6, 6, 6, 6}},
		{make([]int, 9), 3, slices.Repeat([]int{14}, 9)},
		{make([]int, 16), 4, slices.Repeat([]int{30}, 16)},
		{[]int{1, 2, 2, 1}, 2, []int{2, 4, 4, 2}},
		// Values that stand twice stay in their cells, and are taken away from the others.
		{[]int{1, 1, 0, 0}, 2, []int{2, 2, 4, 4}},
		{[]int{2, 2, 2, 2}, 2, []int{4, 4, 4, 4}},
		{[]int{3, 3, 0, 3, 0, 0, 0, 0, 0}, 3, []int{8, 8, 6, 8, 6, 6, 6, 6, 14}},
		// Cells without any candidate.
		{[]int{0, 1, 2, 0}, 2, []int{0, 2, 4, 0}},
		{[]int{1, 2, 0, 0, 0, 3, 0, 0, 0}, 3, []int{2, 4, 0, 4, 2, 8, 12, 10, 6}},
		{[]int{1, 2, 3, 0, 0, 0, 0, 4, 0, 0, 0, 0, 0, 0, 0, 0}, 4, []int{2, 4, 8, 0, 12, 10, 6, 16, 28, 26, 22, 14, 28, 26, 22, 14}},
	} {
		if masks := impl.CandidatesOf(c.grid, c.size); !slices.Equal(masks, c.masks) {
			t.Errorf("%v of size %d: %v", c.grid, c.size, masks)
		}
	}
}

func TestP25InvalidGrids(t *testing.T) {
	for _, g := range invalidGrids() {
		if masks := impl.CandidatesOf(g.grid, g.size); len(masks) != 0 {
			t.Errorf("%v of size %d: %v", g.grid, g.size, masks)
		}
	}
	for _, size := range oddSizes {
		if masks := impl.CandidatesOf(nil, size); len(masks) != 0 {
			t.Errorf("nothing of size %d: %v", size, masks)
		}
	}
}

func TestP26ValidMasks(t *testing.T) {
	eachMasks(func(masks []int, size int) {
		if !impl.MasksValid(masks, size) {
			t.Fatalf("%v of size %d is refused", masks, size)
		}
		if impl.MasksValid(masks[:len(masks)-1], size) {
			t.Fatalf("%v of size %d is accepted without its last mask", masks, size)
		}
		if impl.MasksValid(append(slices.Clone(masks), 0), size) {
			t.Fatalf("%v of size %d is accepted with a mask more", masks, size)
		}
		for cell := range masks {
			masks[cell]++
			if impl.MasksValid(masks, size) {
				t.Fatalf("%v of size %d is accepted with an odd mask", masks, size)
			}
			masks[cell]--
		}
	})
}

func TestP26EveryMask(t *testing.T) {
	for size := 2; size <= 4; size++ {
		for cell := range size * size {
			for mask := -70; mask <= 130; mask++ {
				masks := make([]int, size*size)
				masks[cell] = mask
				want := mask >= 0 && mask%2 == 0 && mask < power(size+1)
				if impl.MasksValid(masks, size) != want {
					t.Errorf("size %d: the mask %d in cell %d is valid: %v", size, mask, cell, !want)
				}
			}
		}
	}
}

func TestP26InvalidMasks(t *testing.T) {
	for _, m := range invalidMasks() {
		if impl.MasksValid(m.masks, m.size) {
			t.Errorf("%v of size %d is accepted", m.masks, m.size)
		}
	}
	for _, size := range oddSizes {
		if impl.MasksValid(nil, size) {
			t.Errorf("nothing of size %d is accepted", size)
		}
	}
}

func TestP26SizesOutsideOfTheLimits(t *testing.T) {
	for size := -6; size <= 12; size++ {
		want := size >= 2 && size <= 4
		if impl.MasksValid(make([]int, size*size), size) != want {
			t.Errorf("empty masks of size %d: not %v", size, want)
		}
	}
}

func TestP27EveryMask(t *testing.T) {
	for mask := -70; mask <= 130; mask++ {
		values := impl.MaskValues(mask)
		if mask < 0 || mask > 30 || mask%2 != 0 {
			if len(values) != 0 {
				t.Errorf("the mask %d has the values %v", mask, values)
			}
			continue
		}
		sum := 0
		for k, value := range values {
			sum += power(value)
			if value < 1 || value > 4 || k > 0 && values[k-1] >= value {
				t.Errorf("the mask %d has the values %v", mask, values)
			}
		}
		if sum != mask {
			t.Errorf("the mask %d has the values %v", mask, values)
		}
	}
}

func TestP27SomeMasks(t *testing.T) {
	for mask, want := range map[int][]int{
		0:  nil,
		2:  {1},
		4:  {2},
		8:  {3},
		16: {4},
		6:  {1, 2},
		18: {1, 4},
		20: {2, 4},
		26: {1, 3, 4},
		30: {1, 2, 3, 4},
	} {
		if values := impl.MaskValues(mask); !slices.Equal(values, want) {
			t.Errorf("the mask %d has the values %v", mask, values)
		}
	}
}

func TestP27InvalidMasks(t *testing.T) {
	for _, mask := range []int{1, 3, 15, 29, 31, 32, 34, 62, 64, 1 << 32, 1<<32 + 2, math.MaxInt - 1, math.MaxInt, -1, -2, -30, -32, math.MinInt, math.MinInt + 2} {
		if values := impl.MaskValues(mask); len(values) != 0 {
			t.Errorf("the mask %d has the values %v", mask, values)
		}
	}
}

func TestP28MasksWithOneValue(t *testing.T) {
	eachMasks(func(masks []int, size int) {
		grid := impl.MasksGrid(masks, size)
		if !impl.GridValid(grid, size) {
			t.Fatalf("%v of size %d: the grid %v is invalid", masks, size, grid)
		}
		for cell, mask := range masks {
			for value := 1; value <= size; value++ {
				if (grid[cell] == value) != (mask == power(value)) {
					t.Fatalf("%v of size %d: %v", masks, size, grid)
				}
			}
		}
	})
}

func TestP28SomeMasks(t *testing.T) {
	for _, c := range []struct{ masks, grid []int }{
		{[]int{0, 2, 4, 6}, []int{0, 1, 2, 0}},
		{[]int{0, 0, 0, 0}, []int{0, 0, 0, 0}},
		{[]int{6, 6, 6, 6}, []int{0, 0, 0, 0}},
		// Masks need not be those of a grid that fits.
		{[]int{4, 4, 4, 4}, []int{2, 2, 2, 2}},
		{[]int{0, 2, 4, 6, 8, 10, 12, 14, 8}, []int{0, 1, 2, 0, 3, 0, 0, 0, 3}},
		{[]int{0, 2, 4, 6, 8, 10, 12, 14, 16, 18, 20, 22, 24, 26, 28, 30}, []int{0, 1, 2, 0, 3, 0, 0, 0, 4, 0, 0, 0, 0, 0, 0, 0}},
	} {
		size := []int{4: 2, 9: 3, 16: 4}[len(c.masks)]
		if grid := impl.MasksGrid(c.masks, size); !slices.Equal(grid, c.grid) {
			t.Errorf("%v: %v", c.masks, grid)
		}
	}
}

func TestP28GridsOfCandidates(t *testing.T) {
	eachNearlySolved(func(grid []int, size int) {
		masks := impl.CandidatesOf(grid, size)
		for cell, value := range impl.MasksGrid(masks, size) {
			if grid[cell] != 0 && value != grid[cell] {
				t.Fatalf("%v of size %d: cell %d has the value %d", grid, size, cell, value)
			}
			if grid[cell] == 0 && value != 0 && masks[cell] != power(value) {
				t.Fatalf("%v of size %d: cell %d has the value %d of the candidates %d", grid, size, cell, value, masks[cell])
			}
		}
	})
}

func TestP28InvalidMasks(t *testing.T) {
	for _, m := range invalidMasks() {
		if grid := impl.MasksGrid(m.masks, m.size); len(grid) != 0 {
			t.Errorf("%v of size %d: %v", m.masks, m.size, grid)
		}
	}
	for _, size := range oddSizes {
		if grid := impl.MasksGrid(nil, size); len(grid) != 0 {
			t.Errorf("nothing of size %d: %v", size, grid)
		}
	}
}

func TestP112CandidatesTurnWithTheGrid(t *testing.T) {
	eachSquare(func(grid []int, size int) {
		masks := impl.CandidatesOf(impl.GridTurn(grid, size), size)
		if !slices.Equal(masks, turnedMasks(impl.CandidatesOf(grid, size), size)) {
			t.Fatalf("%v of size %d, turned: %v", grid, size, masks)
		}
	})
}

func TestP112SomeTurns(t *testing.T) {
	grid := []int{1, 0, 0, 0, 0, 0, 0, 2, 0}
	for turns, want := range [][]int{
		{2, 8, 12, 12, 10, 14, 8, 4, 10},
		{8, 12, 2, 4, 10, 8, 10, 14, 12},
		{10, 4, 8, 14, 10, 12, 12, 8, 2},
		{12, 14, 10, 8, 10, 4, 2, 12, 8},
		{2, 8, 12, 12, 10, 14, 8, 4, 10},
	} {
		if masks := impl.CandidatesOf(turnTimes(grid, 3, turns), 3); !slices.Equal(masks, want) {
			t.Errorf("after %d turns: %v", turns, masks)
		}
	}
}

func TestP112InvalidGrids(t *testing.T) {
	for _, g := range invalidGrids() {
		turned := impl.GridTurn(g.grid, g.size)
		if masks := impl.CandidatesOf(turned, g.size); len(masks) != 0 {
			t.Errorf("%v of size %d, turned: %v", g.grid, g.size, masks)
		}
	}
}

func TestCandidateResultsAreNew(t *testing.T) {
	for _, g := range []sizedGrid{
		{[]int{1, 2, 2, 1}, 2},
		{[]int{0, 0, 0, 0}, 2},
		{[]int{1, 2, 3, 0, 3, 1, 2, 0, 0}, 3},
		{[]int{1, 1, 1, 1, 2, 0, 0, 2, 2, 0, 0, 2, 1, 1, 1, 1}, 4},
	} {
		checkFresh(t, "CandidatesOf", g.grid, func(grid []int) []int { return impl.CandidatesOf(grid, g.size) })
	}
	for _, m := range []sizedMasks{
		{[]int{2, 4, 6, 0}, 2},
		{[]int{0, 0, 0, 0}, 2},
		{[]int{2, 8, 12, 12, 10, 14, 8, 4, 10}, 3},
		{[]int{2, 4, 8, 16, 4, 8, 16, 2, 8, 16, 2, 4, 16, 2, 4, 8}, 4},
	} {
		checkFresh(t, "MasksGrid", m.masks, func(masks []int) []int { return impl.MasksGrid(masks, m.size) })
		checkFresh(t, "MasksValid", m.masks, func(masks []int) []int { return truth(impl.MasksValid(masks, m.size)) })
		for _, mask := range m.masks {
			checkFresh(t, "MaskValues", m.masks, func([]int) []int { return impl.MaskValues(mask) })
		}
	}
}
