package impl

// The limits of the size of a grid.
const (
	MinSize = 2
	MaxSize = 4
)

// cellGrid is a grid as a caller gives it. Only valid may be called before the grid is known to be valid.
type cellGrid struct {
	values []int
	size   int
}

// valid looks at the size first, because the square of an absurd size can wrap around to the number of values.
func (g cellGrid) valid() bool {
	if !sizeValid(g.size) || len(g.values) != g.size*g.size {
		return false
	}
	for _, value := range g.values {
		if value < 0 || value > g.size {
			return false
		}
	}
	return true
}

func (g cellGrid) at(row int, column int) int {
	return g.values[row*g.size+column]
}

func (g cellGrid) filled() int {
	count := 0
	for _, value := range g.values {
		if value != 0 {
			count++
		}
	}
	return count
}

func (g cellGrid) turned() []int {
	return g.rebuilt(func(row int, column int) int {
		return g.at(g.size-1-column, row)
	})
}

func (g cellGrid) mirrored() []int {
	return g.rebuilt(func(row int, column int) int {
		return g.at(row, g.size-1-column)
	})
}

func (g cellGrid) swapped(a int, b int) []int {
	return g.rebuilt(func(row int, column int) int {
		switch value := g.at(row, column); value {
		case a:
			return b
		case b:
			return a
		default:
			return value
		}
	})
}

// rebuilt returns a new grid of the same size, with the value that valueAt tells for every row and column.
func (g cellGrid) rebuilt(valueAt func(row int, column int) int) []int {
	values := make([]int, len(g.values))
	for row := range g.size {
		for column := range g.size {
			values[row*g.size+column] = valueAt(row, column)
		}
	}
	return values
}

func sizeValid(size int) bool {
	return size >= MinSize && size <= MaxSize
}

func valueValid(value int, size int) bool {
	return value >= 1 && value <= size
}

func lineValid(size int, line int) bool {
	return sizeValid(size) && line >= 0 && line < 2*size
}

// linesThrough returns the row and the column of a cell, numbered as by LineCells.
func linesThrough(size int, cell int) (row int, column int) {
	return cell / size, size + cell%size
}

// GridValid reports whether values are those of a grid with a size in MinSize..MaxSize: there are size * size of them, each in 0..size; 0 stands for an empty cell. The cell in a row and a column, both from 0 on, has the number row * size + column.
func GridValid(grid []int, size int) bool {
	return cellGrid{grid, size}.valid()
}

// GridFilled returns how many cells of a valid grid are not empty; -1 for other grids.
func GridFilled(grid []int, size int) int {
	g := cellGrid{grid, size}
	if !g.valid() {
		return -1
	}
	return g.filled()
}

// GridTurn returns a valid grid turned to the right by a quarter: the value in a row and a column comes from row size - 1 - column and column row; nil for other grids.
func GridTurn(grid []int, size int) []int {
	g := cellGrid{grid, size}
	if !g.valid() {
		return nil
	}
	return g.turned()
}

// GridMirror returns a valid grid with the values of every row in reverse order; nil for other grids.
func GridMirror(grid []int, size int) []int {
	g := cellGrid{grid, size}
	if !g.valid() {
		return nil
	}
	return g.mirrored()
}

// GridSwap returns a valid grid in which two values in 1..size are exchanged everywhere; nil for other arguments. A value exchanged with itself stays.
func GridSwap(grid []int, size int, a int, b int) []int {
	g := cellGrid{grid, size}
	if !g.valid() || !valueValid(a, size) || !valueValid(b, size) {
		return nil
	}
	return g.swapped(a, b)
}

// LineCells returns the numbers of the cells of a line of a grid with a size in MinSize..MaxSize, in ascending order: lines 0 to size - 1 are the rows, and lines size to 2 * size - 1 the columns; nil for other arguments.
func LineCells(size int, line int) []int {
	if !lineValid(size, line) {
		return nil
	}
	first, step := line*size, 1
	if line >= size {
		first, step = line-size, size
	}
	cells := make([]int, size)
	for k := range cells {
		cells[k] = first + k*step
	}
	return cells
}
