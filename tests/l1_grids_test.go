package tests

import (
	"math"
	"slices"
	"testing"

	"loop.example/gridpuzzles/impl"
)

func filledOf(grid []int) int {
	count := 0
	for _, value := range grid {
		if value != 0 {
			count++
		}
	}
	return count
}

func turnTimes(grid []int, size int, times int) []int {
	for range times {
		grid = impl.GridTurn(grid, size)
	}
	return grid
}

func TestSizesOfGrids(t *testing.T) {
	if impl.MinSize != 2 || impl.MaxSize != 4 {
		t.Fatal(impl.MinSize, impl.MaxSize)
	}
}

func TestP14ValidGrids(t *testing.T) {
	eachGrid(func(grid []int, size int) {
		if !impl.GridValid(grid, size) {
			t.Fatalf("%v of size %d is refused", grid, size)
		}
		if impl.GridValid(grid[:len(grid)-1], size) {
			t.Fatalf("%v of size %d is accepted without its last value", grid, size)
		}
		if impl.GridValid(append(slices.Clone(grid), 0), size) {
			t.Fatalf("%v of size %d is accepted with a value more", grid, size)
		}
	})
}

func TestP14ValuesOutsideOfTheSize(t *testing.T) {
	for size := 2; size <= 4; size++ {
		for cell := range size * size {
			for _, value := range []int{size + 1, math.MaxInt, -1, math.MinInt} {
				grid := make([]int, size*size)
				grid[cell] = value
				if impl.GridValid(grid, size) {
					t.Errorf("size %d: %d is accepted in cell %d", size, value, cell)
				}
			}
		}
	}
}

func TestP14InvalidGrids(t *testing.T) {
	for _, g := range invalidGrids() {
		if impl.GridValid(g.grid, g.size) {
			t.Errorf("%v of size %d is accepted", g.grid, g.size)
		}
	}
}

func TestP14SizesOutsideOfTheLimits(t *testing.T) {
	for size := -6; size <= 12; size++ {
		want := size >= 2 && size <= 4
		if impl.GridValid(make([]int, size*size), size) != want {
			t.Errorf("an empty grid of size %d: not %v", size, want)
		}
	}
}

func TestP15FilledCells(t *testing.T) {
	eachGrid(func(grid []int, size int) {
		filled := impl.GridFilled(grid, size)
		if filled != filledOf(grid) {
			t.Fatalf("%v of size %d: %d", grid, size, filled)
		}
		cell := slices.IndexFunc(grid, func(value int) bool { return value != 0 })
		if cell < 0 {
			return
		}
		grid[cell] = 0
		if impl.GridFilled(grid, size) != filled-1 {
			t.Fatalf("%v of size %d: an empty cell more is not a filled one less", grid, size)
		}
	})
}

func TestP15EmptyAndFullGrids(t *testing.T) {
	for size := 2; size <= 4; size++ {
		if filled := impl.GridFilled(make([]int, size*size), size); filled != 0 {
			t.Errorf("size %d, empty: %d", size, filled)
		}
		if filled := impl.GridFilled(slices.Repeat([]int{size}, size*size), size); filled != size*size {
			t.Errorf("size %d, full: %d", size, filled)
		}
	}
}

func TestP15InvalidGrids(t *testing.T) {
	for _, g := range invalidGrids() {
		if filled := impl.GridFilled(g.grid, g.size); filled != -1 {
			t.Errorf("%v of size %d: %d", g.grid, g.size, filled)
		}
	}
}

func TestP16TurnsToTheRight(t *testing.T) {
	for _, c := range []struct{ grid, turned []int }{
		{[]int{1, 2, 0, 1}, []int{0, 1, 1, 2}},
		{[]int{1, 2, 3, 0, 0, 1, 2, 0, 0}, []int{2, 0, 1, 0, 0, 2, 0, 1, 3}},
		{[]int{1, 2, 3, 4, 0, 0, 0, 1, 0, 0, 0, 2, 4, 0, 0, 3}, []int{4, 0, 0, 1, 0, 0, 0, 2, 0, 0, 0, 3, 3, 2, 1, 4}},
	} {
		size := []int{4: 2, 9: 3, 16: 4}[len(c.grid)]
		if turned := impl.GridTurn(c.grid, size); !slices.Equal(turned, c.turned) {
			t.Errorf("%v is turned to %v", c.grid, turned)
		}
	}
}

func TestP16EveryTurn(t *testing.T) {
	eachGrid(func(grid []int, size int) {
		turned := impl.GridTurn(grid, size)
		if !impl.GridValid(turned, size) || impl.GridFilled(turned, size) != filledOf(grid) {
			t.Fatalf("%v is turned to %v", grid, turned)
		}
		for k := range size {
			if turned[k*size+size-1] != grid[k] {
				t.Fatalf("the first row of %v is not the last column of %v", grid, turned)
			}
		}
		for cell, value := range turned {
			row, column := cell/size, cell%size
			if value != grid[(size-1-column)*size+row] {
				t.Fatalf("%v is turned to %v", grid, turned)
			}
		}
		if !slices.Equal(turnTimes(turned, size, 3), grid) {
			t.Fatalf("four turns change %v", grid)
		}
	})
}

func TestP16InvalidGrids(t *testing.T) {
	for _, g := range invalidGrids() {
		if turned := impl.GridTurn(g.grid, g.size); len(turned) != 0 {
			t.Errorf("%v of size %d is turned to %v", g.grid, g.size, turned)
		}
	}
}

func TestP17EveryMirror(t *testing.T) {
	eachGrid(func(grid []int, size int) {
		mirrored := impl.GridMirror(grid, size)
		if len(mirrored) != len(grid) {
			t.Fatalf("%v is mirrored to %v", grid, mirrored)
		}
		for row := range size {
			reversed := slices.Clone(grid[row*size : (row+1)*size])
			slices.Reverse(reversed)
			if !slices.Equal(mirrored[row*size:(row+1)*size], reversed) {
				t.Fatalf("%v is mirrored to %v", grid, mirrored)
			}
		}
		if !slices.Equal(impl.GridMirror(mirrored, size), grid) {
			t.Fatalf("two mirrors change %v", grid)
		}
	})
}

func TestP17MirrorsAndTurns(t *testing.T) {
	eachGrid(func(grid []int, size int) {
		turned := impl.GridTurn(impl.GridMirror(grid, size), size)
		mirrored := impl.GridMirror(turnTimes(grid, size, 3), size)
		if len(turned) != len(grid) || !slices.Equal(turned, mirrored) {
			t.Fatalf("%v: mirrored and turned %v, turned three times and mirrored %v", grid, turned, mirrored)
		}
	})
}

func TestP17InvalidGrids(t *testing.T) {
	for _, g := range invalidGrids() {
		if mirrored := impl.GridMirror(g.grid, g.size); len(mirrored) != 0 {
			t.Errorf("%v of size %d is mirrored to %v", g.grid, g.size, mirrored)
		}
	}
}

// swapOf exchanges the values through the positions at which they stand, so that it shares no thought with the program.
func swapOf(grid []int, a int, b int) []int {
	swapped := slices.Clone(grid)
	for cell, value := range grid {
		if value == a {
			swapped[cell] = b
		}
	}
	for cell, value := range grid {
		if value == b {
			swapped[cell] = a
		}
	}
	return swapped
}

func TestP18EverySwap(t *testing.T) {
	eachGrid(func(grid []int, size int) {
		for a := 1; a <= size; a++ {
			for b := 1; b <= size; b++ {
				swapped := impl.GridSwap(grid, size, a, b)
				if !slices.Equal(swapped, swapOf(grid, a, b)) {
					t.Fatalf("%v with %d and %d exchanged: %v", grid, a, b, swapped)
				}
				if !slices.Equal(impl.GridSwap(grid, size, b, a), swapped) {
					t.Fatalf("%v: the order of %d and %d matters", grid, a, b)
				}
				if !slices.Equal(impl.GridSwap(swapped, size, a, b), grid) {
					t.Fatalf("%v: two swaps of %d and %d change it", grid, a, b)
				}
				if impl.SquareFits(swapped, size) != impl.SquareFits(grid, size) {
					t.Fatalf("%v: only one of it and its swap of %d and %d fits", grid, a, b)
				}
			}
		}
	})
}

func TestP18AValueWithItself(t *testing.T) {
	grid := []int{1, 2, 3, 0, 3, 1, 2, 0, 0}
	for value := 1; value <= 3; value++ {
		if swapped := impl.GridSwap(grid, 3, value, value); !slices.Equal(swapped, grid) {
			t.Errorf("%d exchanged with itself: %v", value, swapped)
		}
	}
}

func TestP18InvalidValues(t *testing.T) {
	for size := 2; size <= 4; size++ {
		grid := slices.Repeat([]int{1}, size*size)
		for _, bad := range []int{0, -1, size + 1, math.MinInt, math.MaxInt} {
			for _, other := range []int{1, size, bad} {
				if len(impl.GridSwap(grid, size, bad, other)) != 0 || len(impl.GridSwap(grid, size, other, bad)) != 0 {
					t.Errorf("size %d: %d and %d are exchanged", size, bad, other)
				}
			}
		}
	}
}

func TestP18InvalidGrids(t *testing.T) {
	for _, g := range invalidGrids() {
		if swapped := impl.GridSwap(g.grid, g.size, 1, 2); len(swapped) != 0 {
			t.Errorf("%v of size %d: %v", g.grid, g.size, swapped)
		}
		if swapped := impl.GridSwap(g.grid, g.size, 1, 1); len(swapped) != 0 {
			t.Errorf("%v of size %d: %v", g.grid, g.size, swapped)
		}
	}
}

func TestP19EveryLine(t *testing.T) {
	lines := map[int][][]int{
		2: {{0, 1}, {2, 3}, {0, 2}, {1, 3}},
		3: {{0, 1, 2}, {3, 4, 5}, {6, 7, 8}, {0, 3, 6}, {1, 4, 7}, {2, 5, 8}},
		4: {{0, 1, 2, 3}, {4, 5, 6, 7}, {8, 9, 10, 11}, {12, 13, 14, 15}, {0, 4, 8, 12}, {1, 5, 9, 13}, {2, 6, 10, 14}, {3, 7, 11, 15}},
	}
	for size, wanted := range lines {
		for line, want := range wanted {
			if cells := impl.LineCells(size, line); !slices.Equal(cells, want) {
				t.Errorf("size %d, line %d: %v", size, line, cells)
			}
		}
	}
}

func TestP19RowsCrossColumns(t *testing.T) {
	for size := 2; size <= 4; size++ {
		for row := range size {
			for line := size; line < 2*size; line++ {
				column := impl.LineCells(size, line)
				common := 0
				for _, cell := range impl.LineCells(size, row) {
					if slices.Contains(column, cell) {
						common++
					}
				}
				if common != 1 {
					t.Errorf("size %d: lines %d and %d have %d cells in common", size, row, line, common)
				}
			}
		}
	}
}

func TestP19InvalidLines(t *testing.T) {
	for size := 2; size <= 4; size++ {
		for _, line := range []int{-1, 2 * size, 2*size + 1, math.MinInt, math.MaxInt} {
			if cells := impl.LineCells(size, line); len(cells) != 0 {
				t.Errorf("size %d, line %d: %v", size, line, cells)
			}
		}
	}
	for _, size := range []int{math.MinInt, -2, -1, 0, 1, 5, 6, math.MaxInt} {
		for _, line := range []int{-1, 0, 1} {
			if cells := impl.LineCells(size, line); len(cells) != 0 {
				t.Errorf("size %d, line %d: %v", size, line, cells)
			}
		}
	}
}

func TestGridResultsAreNew(t *testing.T) {
	for _, g := range []sizedGrid{
		{[]int{1, 2, 2, 1}, 2},
		{[]int{0, 0, 0, 0}, 2},
		{[]int{1, 2, 3, 0, 3, 1, 2, 0, 0}, 3},
		{[]int{1, 1, 1, 1, 2, 0, 0, 2, 2, 0, 0, 2, 1, 1, 1, 1}, 4},
	} {
		checkFresh(t, "GridTurn", g.grid, func(grid []int) []int { return impl.GridTurn(grid, g.size) })
		checkFresh(t, "GridMirror", g.grid, func(grid []int) []int { return impl.GridMirror(grid, g.size) })
		checkFresh(t, "GridSwap", g.grid, func(grid []int) []int { return impl.GridSwap(grid, g.size, 1, 2) })
		checkFresh(t, "GridSwap with itself", g.grid, func(grid []int) []int { return impl.GridSwap(grid, g.size, 1, 1) })
		checkFresh(t, "GridFilled", g.grid, func(grid []int) []int { return []int{impl.GridFilled(grid, g.size)} })
		checkFresh(t, "LineCells", g.grid, func([]int) []int { return impl.LineCells(g.size, g.size) })
	}
}
