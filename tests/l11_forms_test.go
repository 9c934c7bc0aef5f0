package tests

import (
	"math"
	"slices"
	"testing"

	"loop.example/gridpuzzles/impl"
)

// sourceOf tells from which row and column of a grid a row and a column of its form with a number have their value. It leads to each form at once, and not by way of the others.
func sourceOf(form int, size int, row int, column int) (int, int) {
	last := size - 1
	switch form {
	case 1:
		return last - column, row
	case 2:
		return last - row, last - column
	case 3:
		return column, last - row
	case 4:
		return row, last - column
	case 5:
		return last - column, last - row
	case 6:
		return last - row, column
	case 7:
		return column, row
	}
	return row, column
}

func formOf(grid []int, size int, form int) []int {
	var made []int
	for row := range size {
		for column := range size {
			fromRow, fromColumn := sourceOf(form, size, row, column)
			made = append(made, grid[fromRow*size+fromColumn])
		}
	}
	return made
}

func formsOf(grid []int, size int) [][]int {
	var forms [][]int
	for form := range 8 {
		forms = append(forms, formOf(grid, size, form))
	}
	return forms
}

// renamedOf counts for every value the different ones up to the place where it is met first.
func renamedOf(grid []int) []int {
	renamed := make([]int, len(grid))
	for cell, value := range grid {
		if value == 0 {
			continue
		}
		first := slices.Index(grid, value)
		for k, other := range grid[:first+1] {
			if other != 0 && slices.Index(grid, other) == k {
				renamed[cell]++
			}
		}
	}
	return renamed
}

// differentForms lists the different renamed forms of a grid, and finds the first one of them.
func differentForms(grid []int, size int) (different [][]int, first []int) {
	for _, form := range formsOf(grid, size) {
		renamed := renamedOf(form)
		if slices.ContainsFunc(different, func(other []int) bool { return slices.Equal(other, renamed) }) {
			continue
		}
		different = append(different, renamed)
		if first == nil || slices.Compare(renamed, first) < 0 {
			first = renamed
		}
	}
	return different, first
}

// withNames returns a grid in which names[v-1] stands for every value v.
func withNames(grid []int, names []int) []int {
	named := make([]int, len(grid))
	for cell, value := range grid {
		if value != 0 {
			named[cell] = names[value-1]
		}
	}
	return named
}

// eachFormGrid visits every grid of size 2, every fifth one of size 3, and the grids of someGridsOfSize4, eachNearlySolved and eachEvenGrid: hardly any of the others of size 4 have fewer than eight forms.
func eachFormGrid(visit func(grid []int, size int)) {
	everyGrid(2, visit)
	number := 0
	everyGrid(3, func(grid []int, size int) {
		if number++; number%5 == 0 {
			visit(grid, size)
		}
	})
	someGridsOfSize4(visit)
	eachNearlySolved(visit)
	eachEvenGrid(visit)
}

// eachEvenGrid visits a fixed selection of grids that are the same as one of their forms if their values get other names.
func eachEvenGrid(visit func(grid []int, size int)) {
	next := fixedNumbers()
	for size := 2; size <= 4; size++ {
		for form := 1; form < 8; form++ {
			for _, names := range ascendingRows(size) {
				for range 15 {
					visit(evenGrid(size, form, names, next), size)
				}
			}
		}
	}
}

// evenGrid goes around from every cell to the one from which it has its value in a form, and so on, and gives each of them the next name. Where the names do not come around the cells stay empty.
func evenGrid(size int, form int, names []int, next func(limit uint32) int) []int {
	grid := make([]int, size*size)
	for start := range grid {
		cells := cellsAround(size, form, start)
		if slices.Min(cells) != start {
			continue
		}
		values := []int{next(uint32(size + 1))}
		for k := range cells {
			values = append(values, withNames(values[k:], names)...)
		}
		if values[len(cells)] != values[0] {
			continue
		}
		for k, cell := range cells {
			grid[cell] = values[k]
		}
	}
	return grid
}

func cellsAround(size int, form int, start int) []int {
	var cells []int
	for cell := start; len(cells) == 0 || cell != start; {
		cells = append(cells, cell)
		row, column := sourceOf(form, size, cell/size, cell%size)
		cell = row*size + column
	}
	return cells
}

func sameForms(forms [][]int, others [][]int) bool {
	return slices.EqualFunc(forms, others, slices.Equal)
}

// checkCanonical fails if a grid that is made of another one has not the same canonical grid as that.
func checkCanonical(t *testing.T, how string, grid []int, size int, made []int, want []int) {
	t.Helper()
	if canonical := impl.CanonicalGrid(made, size); len(canonical) == 0 || !slices.Equal(canonical, want) {
		t.Fatalf("%v has the canonical grid %v, but %s, as %v, it has %v", grid, want, how, made, canonical)
	}
}

func TestP8EveryGrid(t *testing.T) {
	eachFormGrid(func(grid []int, size int) {
		canonical := impl.CanonicalGrid(grid, size)
		if _, first := differentForms(grid, size); !slices.Equal(canonical, first) {
			t.Fatalf("%v of size %d has the canonical grid %v, not %v", grid, size, canonical, first)
		}
		checkCanonical(t, "turned", grid, size, impl.GridTurn(grid, size), canonical)
		checkCanonical(t, "mirrored", grid, size, impl.GridMirror(grid, size), canonical)
		checkCanonical(t, "renamed", grid, size, impl.RenameGrid(grid, size), canonical)
		checkCanonical(t, "made canonical", grid, size, canonical, canonical)
	})
}

// No form with any names comes before the canonical grid.
func TestP8EveryFormWithEveryName(t *testing.T) {
	check := func(grid []int, size int) {
		canonical := impl.CanonicalGrid(grid, size)
		met := false
		for _, form := range impl.GridForms(grid, size) {
			for _, names := range ascendingRows(size) {
				named := withNames(form, names)
				checkCanonical(t, "as a form with other names", grid, size, named, canonical)
				if slices.Compare(named, canonical) < 0 {
					t.Fatalf("%v of size %d has the canonical grid %v, but its form %v comes before", grid, size, canonical, named)
				}
				met = met || slices.Equal(named, canonical)
			}
		}
		if !met {
			t.Fatalf("%v of size %d has the canonical grid %v, which is no form of it", grid, size, canonical)
		}
	}
	everyGrid(2, check)
	next := fixedNumbers()
	eachFormGrid(func(grid []int, size int) {
		if next(32) == 0 {
			check(grid, size)
		}
	})
}

func TestP8SomeGrids(t *testing.T) {
	for _, c := range []struct{ grid, want []int }{
		{[]int{0, 0, 0, 0}, []int{0, 0, 0, 0}},
		{[]int{2, 0, 0, 0}, []int{0, 0, 0, 1}},
		{[]int{2, 1, 1, 2}, []int{1, 2, 2, 1}},
		{[]int{2, 2, 2, 2}, []int{1, 1, 1, 1}},
		// What is empty comes first, and then what is the same.
		{[]int{1, 0, 0, 2}, []int{0, 1, 2, 0}},
		{[]int{2, 0, 0, 2}, []int{0, 1, 1, 0}},
		{[]int{1, 2, 1, 2}, []int{1, 1, 2, 2}},
		{[]int{2, 1, 2, 2}, []int{1, 1, 1, 2}},
		// What is turned by a half begins with 0 0 2, until it is renamed.
		{[]int{1, 2, 0, 0}, []int{0, 0, 1, 2}},
		{[]int{2, 1, 0, 0}, []int{0, 0, 1, 2}},
		// The grid of a turned one, and that of a mirrored and turned one; the others with 0 in front go on with 1 2 2.
		{[]int{1, 1, 0, 2}, []int{0, 1, 2, 1}},
		{[]int{2, 2, 1, 0}, []int{0, 1, 2, 1}},
		{[]int{0, 3, 0, 0, 0, 1, 0, 0, 0}, []int{0, 0, 0, 0, 0, 1, 0, 2, 0}},
		{[]int{1, 2, 0, 0, 0, 0, 0, 0, 0}, []int{0, 0, 0, 0, 0, 0, 0, 1, 2}},
		{[]int{3, 0, 0, 2, 0, 0, 0, 0, 0}, []int{0, 0, 0, 0, 0, 0, 0, 1, 2}},
		{[]int{0, 0, 0, 0, 3, 0, 0, 0, 0}, []int{0, 0, 0, 0, 1, 0, 0, 0, 0}},
		{[]int{0, 0, 0, 3, 2, 1, 0, 0, 0}, []int{0, 0, 0, 1, 2, 3, 0, 0, 0}},
		{[]int{0, 3, 0, 0, 3, 0, 0, 2, 0}, []int{0, 0, 0, 1, 1, 2, 0, 0, 0}},
		{[]int{1, 2, 3, 2, 3, 1, 3, 1, 2}, []int{1, 2, 3, 2, 3, 1, 3, 1, 2}},
		{[]int{2, 3, 1, 1, 2, 3, 3, 1, 2}, []int{1, 2, 3, 2, 3, 1, 3, 1, 2}},
		{[]int{4, 3, 2, 1, 3, 4, 1, 2, 2, 1, 4, 3, 1, 2, 3, 4}, []int{1, 2, 3, 4, 2, 1, 4, 3, 3, 4, 1, 2, 4, 3, 2, 1}},
		{[]int{0, 4, 0, 0, 0, 0, 0, 0, 0, 0, 0, 3, 0, 0, 0, 0}, []int{0, 0, 0, 0, 0, 0, 0, 1, 0, 0, 0, 0, 0, 2, 0, 0}},
	} {
		size := sizeOf(c.grid)
		if canonical := impl.CanonicalGrid(c.grid, size); !slices.Equal(canonical, c.want) {
			t.Errorf("%v has the canonical grid %v, not %v", c.grid, canonical, c.want)
		}
	}
}

func TestP8InvalidGrids(t *testing.T) {
	for _, g := range invalidGrids() {
		if canonical := impl.CanonicalGrid(g.grid, g.size); len(canonical) != 0 {
			t.Errorf("%v of size %d has the canonical grid %v", g.grid, g.size, canonical)
		}
	}
	for _, size := range oddSizes {
		if canonical := impl.CanonicalGrid(nil, size); len(canonical) != 0 {
			t.Errorf("nothing of size %d has the canonical grid %v", size, canonical)
		}
	}
}

func TestP50EveryGrid(t *testing.T) {
	fitting := 0
	eachFormGrid(func(grid []int, size int) {
		forms := impl.GridForms(grid, size)
		if len(forms) != 8 || !slices.Equal(forms[0], grid) || !sameForms(forms, formsOf(grid, size)) {
			t.Fatalf("%v of size %d has the forms %v", grid, size, forms)
		}
		fits := repeatsNothing(grid, size)
		for k, form := range forms {
			if impl.SquareFits(form, size) != fits {
				t.Fatalf("only one of %v and its form %d fits", grid, k)
			}
		}
		if fits {
			fitting++
		}
	})
	if fitting < 1000 {
		t.Errorf("only %d grids that fit", fitting)
	}
}

func TestP50TurnsAndMirrors(t *testing.T) {
	eachFormGrid(func(grid []int, size int) {
		mirrored := impl.GridMirror(grid, size)
		var want [][]int
		for _, first := range [][]int{grid, mirrored} {
			for times := range 4 {
				want = append(want, turnTimes(first, size, times))
			}
		}
		if forms := impl.GridForms(grid, size); !sameForms(forms, want) {
			t.Fatalf("%v of size %d has the forms %v, not %v", grid, size, forms, want)
		}
	})
}

func TestP50SomeGrids(t *testing.T) {
	for _, c := range []struct {
		grid []int
		want [][]int
	}{
		{[]int{0, 0, 0, 0}, slices.Repeat([][]int{{0, 0, 0, 0}}, 8)},
		{[]int{1, 2, 0, 2}, [][]int{{1, 2, 0, 2}, {0, 1, 2, 2}, {2, 0, 2, 1}, {2, 2, 1, 0}, {2, 1, 2, 0}, {2, 2, 0, 1}, {0, 2, 1, 2}, {1, 0, 2, 2}}},
		{[]int{1, 2, 3, 0, 0, 1, 0, 3, 2}, [][]int{
			{1, 2, 3, 0, 0, 1, 0, 3, 2},
			{0, 0, 1, 3, 0, 2, 2, 1, 3},
			{2, 3, 0, 1, 0, 0, 3, 2, 1},
			{3, 1, 2, 2, 0, 3, 1, 0, 0},
			{3, 2, 1, 1, 0, 0, 2, 3, 0},
			{2, 1, 3, 3, 0, 2, 0, 0, 1},
			{0, 3, 2, 0, 0, 1, 1, 2, 3},
			{1, 0, 0, 2, 0, 3, 3, 1, 2},
		}},
		{[]int{1, 2, 3, 4, 0, 0, 0, 1, 0, 0, 0, 2, 4, 0, 0, 3}, [][]int{
			{1, 2, 3, 4, 0, 0, 0, 1, 0, 0, 0, 2, 4, 0, 0, 3},
			{4, 0, 0, 1, 0, 0, 0, 2, 0, 0, 0, 3, 3, 2, 1, 4},
			{3, 0, 0, 4, 2, 0, 0, 0, 1, 0, 0, 0, 4, 3, 2, 1},
			{4, 1, 2, 3, 3, 0, 0, 0, 2, 0, 0, 0, 1, 0, 0, 4},
			{4, 3, 2, 1, 1, 0, 0, 0, 2, 0, 0, 0, 3, 0, 0, 4},
			{3, 2, 1, 4, 0, 0, 0, 3, 0, 0, 0, 2, 4, 0, 0, 1},
			{4, 0, 0, 3, 0, 0, 0, 2, 0, 0, 0, 1, 1, 2, 3, 4},
			{1, 0, 0, 4, 2, 0, 0, 0, 3, 0, 0, 0, 4, 1, 2, 3},
		}},
	} {
		if forms := impl.GridForms(c.grid, sizeOf(c.grid)); !sameForms(forms, c.want) {
			t.Errorf("%v has the forms %v", c.grid, forms)
		}
	}
}

func TestP50InvalidGrids(t *testing.T) {
	for _, g := range invalidGrids() {
		if forms := impl.GridForms(g.grid, g.size); len(forms) != 0 {
			t.Errorf("%v of size %d has the forms %v", g.grid, g.size, forms)
		}
	}
	for _, size := range oddSizes {
		if forms := impl.GridForms(nil, size); len(forms) != 0 {
			t.Errorf("nothing of size %d has the forms %v", size, forms)
		}
	}
}

func TestP51EveryGrid(t *testing.T) {
	eachFormGrid(func(grid []int, size int) {
		renamed := impl.RenameGrid(grid, size)
		if !slices.Equal(renamed, renamedOf(grid)) {
			t.Fatalf("%v of size %d is renamed to %v", grid, size, renamed)
		}
		if again := impl.RenameGrid(renamed, size); !slices.Equal(again, renamed) {
			t.Fatalf("%v is renamed to %v, and that to %v", grid, renamed, again)
		}
		begun := false
		for cell, value := range grid {
			if (value == 0) != (renamed[cell] == 0) || !begun && value != 0 && renamed[cell] != 1 {
				t.Fatalf("%v is renamed to %v: cell %d", grid, renamed, cell)
			}
			begun = begun || value != 0
		}
		for a := 1; a <= size; a++ {
			for b := a; b <= size; b++ {
				swapped := impl.GridSwap(grid, size, a, b)
				if other := impl.RenameGrid(swapped, size); !slices.Equal(other, renamed) {
					t.Fatalf("%v is renamed to %v, but with %d and %d exchanged to %v", grid, renamed, a, b, other)
				}
			}
		}
	})
}

func TestP51SomeGrids(t *testing.T) {
	for _, c := range []struct{ grid, want []int }{
		{[]int{2, 0, 1, 1}, []int{1, 0, 2, 2}},
		{[]int{0, 0, 0, 0}, []int{0, 0, 0, 0}},
		{[]int{1, 1, 1, 1}, []int{1, 1, 1, 1}},
		{[]int{2, 2, 2, 2}, []int{1, 1, 1, 1}},
		{[]int{0, 0, 0, 2}, []int{0, 0, 0, 1}},
		{[]int{0, 2, 2, 1}, []int{0, 1, 1, 2}},
		{[]int{1, 2, 2, 1}, []int{1, 2, 2, 1}},
		{[]int{3, 0, 0, 0, 3, 0, 0, 0, 3}, []int{1, 0, 0, 0, 1, 0, 0, 0, 1}},
		{[]int{0, 3, 0, 1, 0, 3, 0, 1, 2}, []int{0, 1, 0, 2, 0, 1, 0, 2, 3}},
		{[]int{2, 3, 1, 3, 1, 2, 1, 2, 3}, []int{1, 2, 3, 2, 3, 1, 3, 1, 2}},
		// Only some of the values get other names.
		{[]int{1, 3, 2, 0, 0, 0, 0, 0, 1}, []int{1, 2, 3, 0, 0, 0, 0, 0, 1}},
		{[]int{4, 0, 0, 1, 0, 3, 0, 0, 2, 2, 1, 1, 3, 4, 0, 4}, []int{1, 0, 0, 2, 0, 3, 0, 0, 4, 4, 2, 2, 3, 1, 0, 1}},
		{[]int{0, 0, 0, 0, 0, 0, 4, 0, 0, 2, 0, 0, 0, 0, 0, 4}, []int{0, 0, 0, 0, 0, 0, 1, 0, 0, 2, 0, 0, 0, 0, 0, 1}},
	} {
		if renamed := impl.RenameGrid(c.grid, sizeOf(c.grid)); !slices.Equal(renamed, c.want) {
			t.Errorf("%v is renamed to %v", c.grid, renamed)
		}
	}
}

func TestP51InvalidGrids(t *testing.T) {
	for _, g := range invalidGrids() {
		if renamed := impl.RenameGrid(g.grid, g.size); len(renamed) != 0 {
			t.Errorf("%v of size %d is renamed to %v", g.grid, g.size, renamed)
		}
	}
	for _, size := range oddSizes {
		if renamed := impl.RenameGrid(nil, size); len(renamed) != 0 {
			t.Errorf("nothing of size %d is renamed to %v", size, renamed)
		}
	}
}

func TestP52EveryGrid(t *testing.T) {
	var met [5][9]int
	eachFormGrid(func(grid []int, size int) {
		count := impl.FormCount(grid, size)
		if different, _ := differentForms(grid, size); count != len(different) {
			t.Fatalf("%v of size %d has %d different forms, not %d", grid, size, count, len(different))
		}
		if !slices.Contains([]int{1, 2, 4, 8}, count) {
			t.Fatalf("%v of size %d has %d different forms", grid, size, count)
		}
		if canonical := impl.CanonicalGrid(grid, size); impl.FormCount(canonical, size) != count {
			t.Fatalf("%v has %d different forms, but its canonical grid %v has %d", grid, count, canonical, impl.FormCount(canonical, size))
		}
		met[size][count]++
	})
	// Of size 2 there are no more than 16 grids with eight.
	for size, least := range []int{2: 16, 3: 100, 4: 100} {
		for _, count := range []int{1, 2, 4, 8} {
			if met[size][count] < least {
				t.Errorf("size %d: only %d grids with %d different forms", size, met[size][count], count)
			}
		}
	}
}

func TestP52SomeGrids(t *testing.T) {
	for _, c := range []struct {
		grid []int
		want int
	}{
		{[]int{0, 0, 0, 0}, 1},
		{[]int{2, 2, 2, 2}, 1},
		// Turned it has 1 and 2 exchanged, and is renamed to the same.
		{[]int{1, 2, 2, 1}, 1},
		{[]int{1, 0, 0, 1}, 2},
		{[]int{1, 0, 0, 2}, 2},
		{[]int{1, 1, 2, 2}, 2},
		{[]int{2, 0, 0, 0}, 4},
		{[]int{1, 2, 0, 0}, 4},
		{[]int{1, 1, 0, 0}, 4},
		{[]int{2, 1, 1, 1}, 4},
		// With rows and columns exchanged it has 1 and 2 exchanged.
		{[]int{0, 1, 2, 0}, 2},
		{[]int{0, 1, 2, 1}, 8},
		{[]int{2, 2, 0, 1}, 8},
		{[]int{0, 0, 0, 0, 0, 0, 0, 0, 0}, 1},
		{[]int{0, 0, 0, 0, 3, 0, 0, 0, 0}, 1},
		{[]int{1, 0, 2, 0, 3, 0, 2, 0, 1}, 1},
		{[]int{1, 2, 3, 2, 3, 1, 3, 1, 2}, 2},
		{[]int{0, 1, 0, 1, 0, 2, 0, 2, 0}, 2},
		{[]int{0, 0, 0, 1, 2, 3, 0, 0, 0}, 2},
		{[]int{1, 2, 3, 0, 0, 0, 0, 0, 0}, 4},
		{[]int{1, 1, 2, 0, 0, 0, 0, 0, 0}, 8},
		{[]int{1, 0, 0, 0, 0, 2, 0, 0, 0}, 8},
		{[]int{1, 2, 3, 4, 2, 1, 4, 3, 3, 4, 1, 2, 4, 3, 2, 1}, 1},
		{[]int{1, 2, 3, 4, 2, 1, 4, 3, 3, 4, 2, 1, 4, 3, 1, 2}, 2},
		{[]int{1, 2, 3, 4, 2, 3, 4, 1, 4, 1, 2, 3, 3, 4, 1, 2}, 4},
		{[]int{1, 2, 3, 4, 2, 1, 4, 3, 3, 4, 1, 2, 4, 3, 2, 0}, 4},
		{[]int{1, 2, 3, 4, 2, 1, 4, 3, 3, 4, 1, 0, 4, 3, 2, 1}, 8},
	} {
		if count := impl.FormCount(c.grid, sizeOf(c.grid)); count != c.want {
			t.Errorf("%v has %d different forms, not %d", c.grid, count, c.want)
		}
	}
}

func TestP52InvalidGrids(t *testing.T) {
	for _, g := range invalidGrids() {
		if count := impl.FormCount(g.grid, g.size); count != -1 {
			t.Errorf("%v of size %d has %d different forms", g.grid, g.size, count)
		}
	}
	for _, size := range oddSizes {
		if count := impl.FormCount(nil, size); count != -1 {
			t.Errorf("nothing of size %d has %d different forms", size, count)
		}
	}
}

func TestP111EveryGrid(t *testing.T) {
	var squares [5]int
	eachFormGrid(func(grid []int, size int) {
		turned, canonical := impl.GridTurn(grid, size), impl.CanonicalGrid(grid, size)
		checkCanonical(t, "turned", grid, size, turned, canonical)
		solved := !slices.Contains(grid, 0) && repeatsNothing(grid, size)
		if impl.SquareSolved(turned, size) != solved || impl.SquareSolved(canonical, size) != solved {
			t.Fatalf("%v is solved: %v; but not %v or %v", grid, solved, turned, canonical)
		}
		if solved {
			squares[size]++
		}
	})
	for size := 2; size <= 4; size++ {
		if squares[size] < solvedCounts[size] {
			t.Errorf("size %d: only %d solved grids", size, squares[size])
		}
	}
}

func TestP111CanonicalSquares(t *testing.T) {
	for size, want := range []int{2: 1, 3: 1, 4: 12} {
		var different [][]int
		for number := 0; size >= 2 && number < solvedCounts[size]; number++ {
			grid := impl.SquareNumber(size, number)
			canonical := impl.CanonicalGrid(grid, size)
			if !impl.SquareSolved(canonical, size) || !slices.Equal(canonical[:size], []int{1, 2, 3, 4}[:size]) {
				t.Fatalf("%v has the canonical grid %v", grid, canonical)
			}
			for times := range 4 {
				turned := turnTimes(grid, size, times)
				checkCanonical(t, "turned", grid, size, turned, canonical)
				if !impl.SquareSolved(turned, size) {
					t.Fatalf("%v is solved, but turned %d times it is not", grid, times)
				}
			}
			if !slices.ContainsFunc(different, func(other []int) bool { return slices.Equal(other, canonical) }) {
				different = append(different, canonical)
			}
		}
		if len(different) != want {
			t.Errorf("size %d: the solved grids have the canonical grids %v", size, different)
		}
	}
}

func TestP111InvalidGrids(t *testing.T) {
	for _, g := range invalidGrids() {
		turned, canonical := impl.GridTurn(g.grid, g.size), impl.CanonicalGrid(g.grid, g.size)
		if impl.SquareSolved(turned, g.size) || impl.SquareSolved(canonical, g.size) || len(impl.CanonicalGrid(turned, g.size)) != 0 {
			t.Errorf("%v of size %d is turned to %v, and has the canonical grid %v", g.grid, g.size, turned, canonical)
		}
	}
}

// eachGivenGrid visits what can be given: every grid of size 2, and of every size a fixed selection of solved grids with cells emptied, some of them with a value changed, so that there are none, one and many solutions.
func eachGivenGrid(visit func(grid []int, size int)) {
	everyGrid(2, visit)
	next := fixedNumbers()
	for size := 2; size <= 4; size++ {
		solved := solvedGrids(size)
		for turn := range 600 {
			grid := thinned(solved[next(uint32(len(solved)))], turn%17, next)
			if turn%3 == 0 {
				grid[next(uint32(len(grid)))] = next(uint32(size + 1))
			}
			visit(grid, size)
		}
	}
}

func TestP120EveryGrid(t *testing.T) {
	var none, one, more [5]int
	lists := [5][][]int{2: solvedGrids(2), 3: solvedGrids(3), 4: solvedGrids(4)}
	eachGivenGrid(func(grid []int, size int) {
		want := len(solutionsOf(impl.Puzzle{Size: size, Given: grid}, lists[size]))
		for _, most := range []int{1, 2, 5, 600} {
			for k, form := range append(impl.GridForms(grid, size), impl.GridTurn(grid, size)) {
				if count := impl.CountSolutions(impl.Puzzle{Size: size, Given: form}, most); count != min(want, most) {
					t.Fatalf("with %v given there are %d solutions, but with its form %d, %v, %d of at most %d", grid, want, k, form, count, most)
				}
			}
		}
		switch want {
		case 0:
			none[size]++
		case 1:
			one[size]++
		default:
			more[size]++
		}
	})
	if slices.Min(none[2:]) < 50 || slices.Min(one[2:]) < 50 || slices.Min(more[2:]) < 50 {
		t.Errorf("too few puzzles with no solution (%v), one (%v) or more (%v)", none, one, more)
	}
}

// The names of the values do not matter either.
func TestP120CanonicalGrids(t *testing.T) {
	eachGivenGrid(func(grid []int, size int) {
		want := impl.CountSolutions(impl.Puzzle{Size: size, Given: grid}, 600)
		for _, made := range [][]int{impl.RenameGrid(grid, size), impl.CanonicalGrid(grid, size)} {
			if count := impl.CountSolutions(impl.Puzzle{Size: size, Given: made}, 600); count != want || count < 0 {
				t.Fatalf("with %v given there are %d solutions, but with %v %d", grid, want, made, count)
			}
		}
	})
}

func TestP120SomeGrids(t *testing.T) {
	for _, c := range []struct {
		grid []int
		want int
	}{
		{[]int{0, 0, 0, 0}, 2},
		{[]int{0, 2, 0, 0}, 1},
		{[]int{1, 0, 0, 2}, 0},
		{[]int{1, 1, 0, 0}, 0},
		{make([]int, 9), 12},
		{[]int{1, 0, 0, 0, 0, 0, 0, 0, 0}, 4},
		{[]int{1, 2, 3, 0, 0, 0, 0, 0, 0}, 2},
		{[]int{1, 0, 0, 0, 2, 0, 0, 0, 0}, 1},
		{[]int{1, 2, 0, 0, 0, 3, 0, 0, 0}, 0},
		{make([]int, 16), 576},
		{[]int{1, 2, 3, 4, 0, 0, 0, 0, 0, 0, 0, 0, 0, 0, 0, 0}, 24},
		{[]int{1, 2, 3, 4, 2, 1, 4, 3, 3, 4, 1, 2, 4, 3, 2, 1}, 1},
	} {
		for times := range 4 {
			turned := turnTimes(c.grid, sizeOf(c.grid), times)
			if count := impl.CountSolutions(impl.Puzzle{Size: sizeOf(c.grid), Given: turned}, 600); count != c.want {
				t.Errorf("with %v given, turned %d times, there are %d solutions", c.grid, times, count)
			}
		}
	}
}

func TestP120InvalidArguments(t *testing.T) {
	for _, g := range invalidGrids() {
		for _, grid := range [][]int{g.grid, impl.GridTurn(g.grid, g.size)} {
			if count := impl.CountSolutions(impl.Puzzle{Size: g.size, Given: grid}, 600); count != -1 {
				t.Errorf("with %v of size %d given there are %d solutions", grid, g.size, count)
			}
		}
	}
	for _, most := range []int{0, -1, 601, math.MinInt, math.MaxInt} {
		for times := range 4 {
			turned := turnTimes([]int{1, 0, 0, 0}, 2, times)
			if count := impl.CountSolutions(impl.Puzzle{Size: 2, Given: turned}, most); count != -1 {
				t.Errorf("with %v given there are %d solutions of at most %d", turned, count, most)
			}
		}
	}
}

func TestP134EveryGrid(t *testing.T) {
	eachFormGrid(func(grid []int, size int) {
		renamed := impl.RenameGrid(grid, size)
		checkCanonical(t, "renamed", grid, size, renamed, impl.CanonicalGrid(grid, size))
		different, _ := differentForms(grid, size)
		if count := impl.FormCount(renamed, size); count != len(different) || count != impl.FormCount(grid, size) {
			t.Fatalf("%v has %d different forms, but renamed, as %v, it has %d", grid, len(different), renamed, count)
		}
	})
}

func TestP134EveryName(t *testing.T) {
	next := fixedNumbers()
	eachFormGrid(func(grid []int, size int) {
		if next(8) != 0 {
			return
		}
		canonical, count := impl.CanonicalGrid(grid, size), impl.FormCount(grid, size)
		for _, names := range ascendingRows(size) {
			named := withNames(grid, names)
			checkCanonical(t, "with other names", grid, size, named, canonical)
			if other := impl.FormCount(named, size); other != count {
				t.Fatalf("%v has %d different forms, but %v has %d", grid, count, named, other)
			}
		}
	})
}

func TestP134InvalidGrids(t *testing.T) {
	for _, g := range invalidGrids() {
		renamed := impl.RenameGrid(g.grid, g.size)
		if impl.FormCount(renamed, g.size) != -1 || impl.FormCount(g.grid, g.size) != -1 {
			t.Errorf("%v of size %d has different forms", g.grid, g.size)
		}
		if len(impl.CanonicalGrid(renamed, g.size)) != 0 || len(impl.CanonicalGrid(g.grid, g.size)) != 0 {
			t.Errorf("%v of size %d has a canonical grid", g.grid, g.size)
		}
	}
}

func TestFormResultsAreNew(t *testing.T) {
	check := func(grid []int, size int) {
		checkFresh(t, "RenameGrid", grid, func(grid []int) []int { return impl.RenameGrid(grid, size) })
		checkFresh(t, "CanonicalGrid", grid, func(grid []int) []int { return impl.CanonicalGrid(grid, size) })
		checkFresh(t, "FormCount", grid, func(grid []int) []int { return []int{impl.FormCount(grid, size)} })
		checkFresh(t, "GridForms", grid, func(grid []int) []int { return slices.Concat(impl.GridForms(grid, size)...) })
		for k := range 8 {
			checkFresh(t, "GridForms", grid, func(grid []int) []int { return impl.GridForms(grid, size)[k] })
		}
		checkFormsApart(t, grid, size)
	}
	everyGrid(2, check)
	next := fixedNumbers()
	eachFormGrid(func(grid []int, size int) {
		if next(32) == 0 {
			check(grid, size)
		}
	})
}

// checkFormsApart fails if two forms of two calls share memory, or the two lists of them do.
func checkFormsApart(t *testing.T, grid []int, size int) {
	t.Helper()
	kept := withSpare(grid)
	first, second := impl.GridForms(kept, size), impl.GridForms(kept, size)
	var lists [][]int
	for _, form := range slices.Concat(first, second) {
		lists = append(lists, form[:cap(form)])
	}
	if !listsApart(lists) || !slices.Equal(kept, grid) || spareTouched(kept) {
		t.Fatalf("forms share memory, for %v", grid)
	}
	clear(first[:cap(first)])
	if slices.ContainsFunc(second, func(form []int) bool { return form == nil }) {
		t.Fatalf("two lists of the forms of %v share memory", grid)
	}
}
