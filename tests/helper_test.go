package tests

import (
	"math"
	"slices"
	"testing"
)

type sizedGrid struct {
	grid []int
	size int
}

// invalidGrids names every way in which a grid can be invalid, with sizes whose squares wrap around to the number of values among them.
func invalidGrids() []sizedGrid {
	return []sizedGrid{
		{nil, 2},
		{[]int{}, 0},
		{nil, math.MinInt},
		{[]int{1}, 1},
		{[]int{1}, -1},
		{[]int{1}, math.MaxInt},
		{[]int{1, 2, 2, 1}, -2},
		{[]int{1, 2, 2, 1}, 3},
		{[]int{1, 2, 2, 1}, 4},
		{make([]int, 9), 2},
		{make([]int, 16), 3},
		{make([]int, 25), 5},
		{[]int{1, 2, 2}, 2},
		{[]int{1, 2, 2, 1, 0}, 2},
		{[]int{3, 2, 2, 1}, 2},
		{[]int{1, 2, 2, 3}, 2},
		{[]int{-1, 2, 2, 1}, 2},
		{[]int{1, 2, 2, math.MinInt}, 2},
		{[]int{1, 2, 3, 2, 3, 1, 3, 1, 4}, 3},
		{[]int{1, 2, 3, 4, 2, 1, 4, 3, 3, 4, 1, 2, 4, 3, 2, 5}, 4},
	}
}

// eachGrid visits every grid of the sizes 2 and 3, and of size 4 a fixed selection of every density.
func eachGrid(visit func(grid []int, size int)) {
	everyGrid(2, visit)
	everyGrid(3, visit)
	someGridsOfSize4(visit)
}

func everyGrid(size int, visit func(grid []int, size int)) {
	grid := make([]int, size*size)
	for {
		visit(slices.Clone(grid), size)
		cell := 0
		for cell < len(grid) && grid[cell] == size {
			grid[cell] = 0
			cell++
		}
		if cell == len(grid) {
			return
		}
		grid[cell]++
	}
}

func someGridsOfSize4(visit func(grid []int, size int)) {
	state := uint32(1)
	next := func(limit uint32) int {
		state = state*1664525 + 1013904223
		return int(state >> 16 % limit)
	}
	for density := range 17 {
		for range 200 {
			grid := make([]int, 16)
			for cell := range grid {
				if next(16) < density {
					grid[cell] = 1 + next(4)
				}
			}
			visit(grid, 4)
		}
	}
	visit([]int{1, 2, 3, 4, 2, 1, 4, 3, 3, 4, 1, 2, 4, 3, 2, 1}, 4)
}

// withSpare returns the same values in memory that goes on behind them, to show whether a call writes there.
func withSpare(values []int) []int {
	return append(slices.Clone(values), 77, 77)[:len(values)]
}

func spareTouched(values []int) bool {
	spare := values[len(values) : len(values)+2]
	return spare[0] != 77 || spare[1] != 77
}

// checkFresh fails if a call writes to its grid, or if its result shares memory with the grid or with the result of the same call made before.
func checkFresh(t *testing.T, name string, values []int, call func(grid []int) []int) {
	t.Helper()
	grid := withSpare(values)
	first := call(grid)
	want := slices.Clone(first)
	second := call(grid)
	if !slices.Equal(grid, values) || spareTouched(grid) {
		t.Fatalf("%s wrote to its grid %v", name, values)
	}
	for k := range first[:cap(first)] {
		first[:cap(first)][k] = 99
	}
	if !slices.Equal(grid, values) || spareTouched(grid) {
		t.Fatalf("the result of %s shares memory with its grid %v", name, values)
	}
	if !slices.Equal(second, want) || !slices.Equal(call(grid), want) {
		t.Fatalf("two results of %s share memory, for the grid %v", name, values)
	}
}
