package tests

import (
	"math"
	"slices"
	"testing"
)

type sizedGrid struct {
	grid []int
	size int
}

// invalidGrids names every way in which a grid can be invalid, with sizes whose squares wrap around to the number of values among them.
func invalidGrids() []sizedGrid {
	return []sizedGrid{
		{nil, 2},
		{[]int{}, 0},
		{nil, math.MinInt},
		{[]int{1}, 1},
		{[]int{1}, -1},
		{[]int{1}, math.MaxInt},
		{[]int{1, 2, 2, 1}, -2},
		{[]int{1, 2, 2, 1}, 3},
		{[]int{1, 2, 2, 1}, 4},
		{make([]int, 9), 2},
		{make([]int, 16), 3},
		{make([]int, 25), 5},
		{[]int{1, 2, 2}, 2},
		{[]int{1, 2, 2, 1, 0}, 2},
		{[]int{3, 2, 2, 1}, 2},
		{[]int{1, 2, 2, 3}, 2},
		{[]int{-1, 2, 2, 1}, 2},
		{[]int{1, 2, 2, math.MinInt}, 2},
		{[]int{1, 2, 3, 2, 3, 1, 3, 1, 4}, 3},
		{[]int{1, 2, 3, 4, 2, 1, 4, 3, 3, 4, 1, 2, 4, 3, 2, 5}, 4},
	}
}

// eachGrid visits every grid of the sizes 2 and 3, and of size 4 a fixed selection of every density.
func eachGrid(visit func(grid []int, size int)) {
	everyGrid(2, visit)
	everyGrid(3, visit)
	someGridsOfSize4(visit)
}

func everyGrid(size int, visit func(grid []int, size int)) {
	grid := make([]int, size*size)
	for {
		visit(slices.Clone(grid), size)
		cell := 0
		for cell < len(grid) && grid[cell] == size {
			grid[cell] = 0
			cell++
		}
		if cell == len(grid) {
			return
		}
		grid[cell]++
	}
}

func someGridsOfSize4(visit func(grid []int, size int)) {
	next := fixedNumbers()
	for density := range 17 {
		for range 200 {
			grid := make([]int, 16)
			for cell := range grid {
				if next(16) < density {
					grid[cell] = 1 + next(4)
				}
			}
			visit(grid, 4)
		}
	}
	visit([]int{1, 2, 3, 4, 2, 1, 4, 3, 3, 4, 1, 2, 4, 3, 2, 1}, 4)
}

// fixedNumbers returns a source of numbers below a limit that look irregular and are the same in every run.
func fixedNumbers() func(limit uint32) int {
	state := uint32(1)
	return func(limit uint32) int {
		state = state*1664525 + 1013904223
		return int(state >> 16 % limit)
	}
}

// withSpare returns the same values in memory that goes on behind them, to show whether a call writes there.
func withSpare(values []int) []int {
	return append(slices.Clone(values), 77, 77)[:len(values)]
}

func spareTouched(values []int) bool {
	spare := values[len(values) : len(values)+2]
	return spare[0] != 77 || spare[1] != 77
}

// checkFresh fails if a call writes to its grid, or if its result shares memory with the grid or with the result of the same call made before.
func checkFresh(t *testing.T, name string, values []int, call func(grid []int) []int) {
	t.Helper()
	grid := withSpare(values)
	first := call(grid)
	want := slices.Clone(first)
	second := call(grid)
	if !slices.Equal(grid, values) || spareTouched(grid) {
		t.Fatalf("%s wrote to its grid %v", name, values)
	}
	for k := range first[:cap(first)] {
		first[:cap(first)][k] = 99
	}
	if !slices.Equal(grid, values) || spareTouched(grid) {
		t.Fatalf("the result of %s shares memory with its grid %v", name, values)
	}
	if !slices.Equal(second, want) || !slices.Equal(call(grid), want) {
		t.Fatalf("two results of %s share memory, for the grid %v", name, values)
	}
}

// listsApart writes to lists, and tells whether no two of them share memory.
func listsApart(lists [][]int) bool {
	for number, list := range lists {
		for k := range list {
			list[k] = 1000 + number
		}
	}
	for number, list := range lists {
		if slices.ContainsFunc(list, func(value int) bool { return value != 1000+number }) {
			return false
		}
	}
	return true
}

// truth makes a result for checkFresh of an answer that has no memory.
func truth(is bool) []int {
	if is {
		return []int{1}
	}
	return []int{0}
}

// repeatsNothing tells whether no value but 0 stands twice in a row or a column.
func repeatsNothing(grid []int, size int) bool {
	for a := range grid {
		for b := range a {
			sameLine := a/size == b/size || a%size == b%size
			if sameLine && grid[a] != 0 && grid[a] == grid[b] {
				return false
			}
		}
	}
	return true
}

// solvedGrids lists the solved grids of a size in ascending order. It lays whole rows below each other, so that it shares no thought with the program.
func solvedGrids(size int) [][]int {
	rows := ascendingRows(size)
	grids := [][]int{{}}
	for range size {
		var longer [][]int
		for _, grid := range grids {
			for _, row := range rows {
				if below := slices.Concat(grid, row); repeatsNothing(below, size) {
					longer = append(longer, below)
				}
			}
		}
		grids = longer
	}
	return grids
}

// ascendingRows lists the rows with every value once, in ascending order.
func ascendingRows(size int) [][]int {
	rows := [][]int{{}}
	for range size {
		var longer [][]int
		for _, row := range rows {
			for value := 1; value <= size; value++ {
				if !slices.Contains(row, value) {
					longer = append(longer, append(slices.Clone(row), value))
				}
			}
		}
		rows = longer
	}
	return rows
}

// eachNearlySolved visits every solved grid, the same with some cells emptied in a fixed pattern, and both with every single cell changed to every other value.
func eachNearlySolved(visit func(grid []int, size int)) {
	for size := 2; size <= 4; size++ {
		for number, solved := range solvedGrids(size) {
			visitChanged(solved, size, visit)
			emptied := slices.Clone(solved)
			for cell := range emptied {
				if (number+cell*cell)%3 == 0 {
					emptied[cell] = 0
				}
			}
			visitChanged(emptied, size, visit)
		}
	}
}

func visitChanged(values []int, size int, visit func(grid []int, size int)) {
	visit(slices.Clone(values), size)
	for cell := range values {
		for value := 0; value <= size; value++ {
			if value == values[cell] {
				continue
			}
			grid := slices.Clone(values)
			grid[cell] = value
			visit(grid, size)
		}
	}
}
