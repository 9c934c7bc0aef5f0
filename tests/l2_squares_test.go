package tests

import (
	"math"
	"slices"
	"testing"

	"loop.example/gridpuzzles/impl"
)

// eachSquare visits the grids of eachGrid and those of eachNearlySolved: among the former of size 4 there are hardly any that fit.
func eachSquare(visit func(grid []int, size int)) {
	eachGrid(visit)
	eachNearlySolved(visit)
}

// oddSizes are the sizes that no grid has, with those among them whose square or double wraps around.
var oddSizes = []int{math.MinInt, math.MinInt + 2, -4, -2, -1, 0, 1, 5, 6, 1 << 32, math.MaxInt}

var solvedCounts = []int{2: 2, 3: 12, 4: 576}

// lineOf reads a line off a grid without the help of the program.
func lineOf(grid []int, size int, line int) []int {
	var values []int
	for cell, value := range grid {
		if cell/size == line || size+cell%size == line {
			values = append(values, value)
		}
	}
	return values
}

func missingOf(values []int, size int) []int {
	var missing []int
	for value := 1; value <= size; value++ {
		if !slices.Contains(values, value) {
			missing = append(missing, value)
		}
	}
	return missing
}

func TestP18SwapsOfFittingGrids(t *testing.T) {
	eachNearlySolved(func(grid []int, size int) {
		fits := impl.SquareFits(grid, size)
		for a := 1; a <= size; a++ {
			for b := a; b <= size; b++ {
				swapped := impl.GridSwap(grid, size, a, b)
				if impl.SquareFits(swapped, size) != fits {
					t.Fatalf("%v: only one of it and its swap of %d and %d fits", grid, a, b)
				}
				if !slices.Equal(swapped, impl.GridSwap(grid, size, b, a)) || !slices.Equal(impl.GridSwap(swapped, size, b, a), grid) {
					t.Fatalf("%v: swaps of %d and %d", grid, a, b)
				}
			}
		}
	})
}

func TestP20FittingGrids(t *testing.T) {
	eachSquare(func(grid []int, size int) {
		fits := impl.SquareFits(grid, size)
		if fits != repeatsNothing(grid, size) {
			t.Fatalf("%v of size %d fits: %v", grid, size, fits)
		}
		if impl.SquareFits(impl.GridTurn(grid, size), size) != fits {
			t.Fatalf("only one of %v and its turn fits", grid)
		}
		if impl.SquareFits(impl.GridMirror(grid, size), size) != fits {
			t.Fatalf("only one of %v and its mirror fits", grid)
		}
	})
}

func TestP20ACellEmptyMore(t *testing.T) {
	eachSquare(func(grid []int, size int) {
		if !impl.SquareFits(grid, size) {
			return
		}
		for cell, value := range grid {
			grid[cell] = 0
			if !impl.SquareFits(grid, size) {
				t.Fatalf("%v of size %d does not fit with cell %d empty", grid, size, cell)
			}
			grid[cell] = value
		}
	})
}

func TestP20EveryTwoCells(t *testing.T) {
	for size := 2; size <= 4; size++ {
		for a := range size * size {
			for b := range a {
				sameLine := a/size == b/size || a%size == b%size
				for value := 1; value <= size; value++ {
					grid := make([]int, size*size)
					grid[a], grid[b] = value, value
					if impl.SquareFits(grid, size) == sameLine {
						t.Errorf("size %d: %d in the cells %d and %d fits: %v", size, value, b, a, !sameLine)
					}
				}
			}
		}
	}
}

func TestP20EmptyGridsFit(t *testing.T) {
	for size := 2; size <= 4; size++ {
		if !impl.SquareFits(make([]int, size*size), size) {
			t.Errorf("size %d: the empty grid does not fit", size)
		}
	}
}

func TestP20InvalidGrids(t *testing.T) {
	for _, g := range invalidGrids() {
		if impl.SquareFits(g.grid, g.size) {
			t.Errorf("%v of size %d fits", g.grid, g.size)
		}
	}
	for _, size := range oddSizes {
		if impl.SquareFits(nil, size) {
			t.Errorf("nothing of size %d fits", size)
		}
	}
}

func TestP21SolvedGrids(t *testing.T) {
	eachSquare(func(grid []int, size int) {
		solved := impl.SquareSolved(grid, size)
		if solved != (!slices.Contains(grid, 0) && repeatsNothing(grid, size)) {
			t.Fatalf("%v of size %d is solved: %v", grid, size, solved)
		}
		if impl.SquareSolved(impl.GridTurn(grid, size), size) != solved {
			t.Fatalf("only one of %v and its turn is solved", grid)
		}
		if solved && !impl.SquareFits(grid, size) {
			t.Fatalf("%v is solved and does not fit", grid)
		}
		for line := 0; solved && line < 2*size; line++ {
			if missing := impl.MissingIn(grid, size, line); len(missing) != 0 {
				t.Fatalf("%v is solved, and %v is missing in line %d", grid, missing, line)
			}
		}
	})
}

func TestP21ValuesThatStandTwice(t *testing.T) {
	for _, g := range []sizedGrid{
		{[]int{1, 2, 1, 2}, 2},
		{[]int{1, 1, 2, 2}, 2},
		{[]int{1, 1, 1, 1}, 2},
		{[]int{1, 2, 3, 1, 2, 3, 1, 2, 3}, 3},
		{[]int{1, 1, 1, 2, 2, 2, 3, 3, 3}, 3},
		{[]int{2, 2, 2, 2, 2, 2, 2, 2, 2}, 3},
		{[]int{1, 2, 3, 4, 1, 2, 3, 4, 2, 1, 4, 3, 2, 1, 4, 3}, 4},
		{[]int{1, 4, 1, 4, 4, 1, 4, 1, 1, 4, 1, 4, 4, 1, 4, 1}, 4},
		{[]int{2, 3, 2, 3, 3, 2, 3, 2, 2, 3, 2, 3, 3, 2, 3, 2}, 4},
		{[]int{1, 2, 3, 4, 2, 1, 4, 3, 3, 4, 1, 2, 4, 3, 2, 2}, 4},
	} {
		if impl.SquareSolved(g.grid, g.size) || impl.SquareFits(g.grid, g.size) {
			t.Errorf("%v of size %d is solved or fits", g.grid, g.size)
		}
	}
}

func TestP21InvalidGrids(t *testing.T) {
	for _, g := range invalidGrids() {
		if impl.SquareSolved(g.grid, g.size) {
			t.Errorf("%v of size %d is solved", g.grid, g.size)
		}
	}
	for _, size := range oddSizes {
		if impl.SquareSolved(nil, size) {
			t.Errorf("nothing of size %d is solved", size)
		}
	}
	if impl.SquareSolved([]int{1, 2, 3, 4, 5, 2, 3, 4, 5, 1, 3, 4, 5, 1, 2, 4, 5, 1, 2, 3, 5, 1, 2, 3, 4}, 5) {
		t.Error("a grid of size 5 is solved")
	}
}

func TestP22ShiftedSquares(t *testing.T) {
	squares := map[int][]int{
		2: {1, 2, 2, 1},
		3: {1, 2, 3, 2, 3, 1, 3, 1, 2},
		4: {1, 2, 3, 4, 2, 3, 4, 1, 3, 4, 1, 2, 4, 1, 2, 3},
	}
	for size, want := range squares {
		square := impl.SquareOf(size)
		if !slices.Equal(square, want) {
			t.Fatalf("size %d: %v", size, square)
		}
		if !impl.SquareSolved(square, size) {
			t.Errorf("size %d: %v is not solved", size, square)
		}
		if !slices.Equal(square[:size], []int{1, 2, 3, 4}[:size]) {
			t.Errorf("size %d: the first row of %v does not ascend", size, square)
		}
	}
}

func TestP22InvalidSizes(t *testing.T) {
	for _, size := range oddSizes {
		if square := impl.SquareOf(size); len(square) != 0 {
			t.Errorf("size %d: %v", size, square)
		}
	}
}

func TestP23EverySolvedGrid(t *testing.T) {
	for size := 2; size <= 4; size++ {
		wanted := solvedGrids(size)
		if len(wanted) != solvedCounts[size] {
			t.Fatalf("size %d: %d grids", size, len(wanted))
		}
		var before []int
		for number, want := range wanted {
			grid := impl.SquareNumber(size, number)
			if !slices.Equal(grid, want) {
				t.Fatalf("size %d, number %d: %v", size, number, grid)
			}
			if !impl.SquareSolved(grid, size) {
				t.Fatalf("size %d, number %d: %v is not solved", size, number, grid)
			}
			if slices.Compare(before, grid) >= 0 {
				t.Fatalf("size %d, number %d: %v is not later than %v", size, number, grid, before)
			}
			before = grid
		}
	}
}

func TestP23InvalidNumbers(t *testing.T) {
	for size := 2; size <= 4; size++ {
		count := solvedCounts[size]
		for _, number := range []int{-1, -count, math.MinInt, count, count + 1, 1 << 32, math.MaxInt} {
			if grid := impl.SquareNumber(size, number); len(grid) != 0 {
				t.Errorf("size %d, number %d: %v", size, number, grid)
			}
		}
	}
}

func TestP23InvalidSizes(t *testing.T) {
	for _, size := range oddSizes {
		for _, number := range []int{-1, 0, 1} {
			if grid := impl.SquareNumber(size, number); len(grid) != 0 {
				t.Errorf("size %d, number %d: %v", size, number, grid)
			}
		}
	}
}

func TestP24MissingValues(t *testing.T) {
	eachSquare(func(grid []int, size int) {
		for line := range 2 * size {
			values := lineOf(grid, size, line)
			missing := impl.MissingIn(grid, size, line)
			if !slices.Equal(missing, missingOf(values, size)) {
				t.Fatalf("%v of size %d, line %d: %v is missing", grid, size, line, missing)
			}
			// The values of a line are laid out as the first row of a grid here.
			if repeatsNothing(values, size) && len(missing)+filledOf(values) != size {
				t.Fatalf("%v of size %d, line %d: %v is missing, and these are not all values", grid, size, line, missing)
			}
		}
	})
}

func TestP24EmptyLinesAndValuesThatStandTwice(t *testing.T) {
	grid := []int{
		2, 2, 0, 0,
		2, 4, 4, 2,
		0, 0, 0, 0,
		1, 1, 1, 1,
	}
	wanted := [][]int{{1, 3, 4}, {1, 3}, {1, 2, 3, 4}, {2, 3, 4}, {3, 4}, {3}, {2, 3}, {3, 4}}
	for line, want := range wanted {
		if missing := impl.MissingIn(grid, 4, line); !slices.Equal(missing, want) {
			t.Errorf("line %d: %v", line, missing)
		}
	}
}

func TestP24InvalidLines(t *testing.T) {
	for size := 2; size <= 4; size++ {
		for _, line := range []int{-1, -size, 2 * size, 2*size + 1, 7, 8, math.MinInt, math.MaxInt} {
			if line >= 0 && line < 2*size {
				continue
			}
			if missing := impl.MissingIn(make([]int, size*size), size, line); len(missing) != 0 {
				t.Errorf("size %d, line %d: %v", size, line, missing)
			}
		}
	}
}

func TestP24InvalidGrids(t *testing.T) {
	for _, g := range invalidGrids() {
		for _, line := range []int{-1, 0, 1, 2, 3} {
			if missing := impl.MissingIn(g.grid, g.size, line); len(missing) != 0 {
				t.Errorf("%v of size %d, line %d: %v", g.grid, g.size, line, missing)
			}
		}
	}
	for _, size := range oddSizes {
		if missing := impl.MissingIn(nil, size, 0); len(missing) != 0 {
			t.Errorf("nothing of size %d: %v", size, missing)
		}
	}
}

func TestP113ExchangedValuesAreMissing(t *testing.T) {
	eachSquare(func(grid []int, size int) {
		before := missingByLine(grid, size)
		for a := 1; a <= size; a++ {
			for b := a + 1; b <= size; b++ {
				after := missingByLine(impl.GridSwap(grid, size, a, b), size)
				for line := range before {
					if !missingExchanged(before[line], after[line], size, a, b) {
						t.Fatalf("%v with %d and %d exchanged, line %d: not %v but %v is missing", grid, a, b, line, before[line], after[line])
					}
				}
			}
		}
	})
}

func TestP113AValueWithItself(t *testing.T) {
	eachNearlySolved(func(grid []int, size int) {
		for value := 1; value <= size; value++ {
			same := impl.GridSwap(grid, size, value, value)
			for line := range 2 * size {
				if !slices.Equal(impl.MissingIn(same, size, line), impl.MissingIn(grid, size, line)) {
					t.Fatalf("%v with %d exchanged with itself, line %d", grid, value, line)
				}
			}
		}
	})
}

func missingByLine(grid []int, size int) [][]int {
	missing := make([][]int, 2*size)
	for line := range missing {
		missing[line] = impl.MissingIn(grid, size, line)
	}
	return missing
}

// missingExchanged tells whether as many values are missing as before, and each of a and b exactly where the other one was.
func missingExchanged(before []int, after []int, size int, a int, b int) bool {
	for value := 1; value <= size; value++ {
		other := value
		if value == a || value == b {
			other = a + b - value
		}
		if slices.Contains(before, value) != slices.Contains(after, other) {
			return false
		}
	}
	return len(before) == len(after)
}

func TestP113InvalidArguments(t *testing.T) {
	grid := []int{1, 2, 0, 0}
	for _, bad := range []int{0, -1, 3, math.MinInt, math.MaxInt} {
		swapped := impl.GridSwap(grid, 2, 1, bad)
		if missing := impl.MissingIn(swapped, 2, 1); len(missing) != 0 {
			t.Errorf("with 1 and %d exchanged %v is missing", bad, missing)
		}
	}
	swapped := impl.GridSwap(grid, 2, 1, 2)
	for _, line := range []int{-1, 4} {
		if len(impl.MissingIn(swapped, 2, line)) != len(impl.MissingIn(grid, 2, line)) {
			t.Errorf("line %d: not as many values are missing", line)
		}
	}
}

func TestSquareResultsAreNew(t *testing.T) {
	for _, g := range []sizedGrid{
		{[]int{1, 2, 2, 1}, 2},
		{[]int{0, 0, 0, 0}, 2},
		{[]int{1, 2, 3, 0, 3, 1, 2, 0, 0}, 3},
		{[]int{1, 1, 1, 1, 2, 0, 0, 2, 2, 0, 0, 2, 1, 1, 1, 1}, 4},
	} {
		checkFresh(t, "SquareFits", g.grid, func(grid []int) []int { return truth(impl.SquareFits(grid, g.size)) })
		checkFresh(t, "SquareSolved", g.grid, func(grid []int) []int { return truth(impl.SquareSolved(grid, g.size)) })
		checkFresh(t, "SquareOf", g.grid, func([]int) []int { return impl.SquareOf(g.size) })
		checkFresh(t, "SquareNumber", g.grid, func([]int) []int { return impl.SquareNumber(g.size, 1) })
		for line := range 2 * g.size {
			checkFresh(t, "MissingIn", g.grid, func(grid []int) []int { return impl.MissingIn(grid, g.size, line) })
		}
	}
}
