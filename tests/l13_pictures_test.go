package tests

import (
	"math"
	"slices"
	"testing"

	"loop.example/gridpuzzles/impl"
)

// pictureTask is a valid picture puzzle with all pictures that have its clues, in ascending order, each given by the numbers of its rows, of which cell k counts 2^k.
type pictureTask struct {
	p        impl.Picture
	pictures [][]int
}

// numberedLine returns the line of so many cells with a number, as zeros and ones.
func numberedLine(number int, cells int) []int {
	line := make([]int, cells)
	for k := range line {
		line[k] = number % 2
		number /= 2
	}
	return line
}

// numberedClues holds for every number of cells the clues of all lines, by their numbers.
var numberedClues = func() (clues [6][][]int) {
	for cells := range clues {
		for number := range 1 << cells {
			clues[cells] = append(clues[cells], clueFrom(numberedLine(number, cells)))
		}
	}
	return clues
}()

// validClues lists the clues that lines of so many cells have, each once.
func validClues(cells int) [][]int {
	var clues [][]int
	for _, clue := range numberedClues[cells] {
		if !hasClue(clues, clue) {
			clues = append(clues, clue)
		}
	}
	return clues
}

func hasClue(clues [][]int, clue []int) bool {
	return slices.ContainsFunc(clues, func(other []int) bool { return slices.Equal(other, clue) })
}

// linesWith lists the lines of so many cells that have a clue.
func linesWith(clue []int, cells int) [][]int {
	var lines [][]int
	for number, other := range numberedClues[cells] {
		if slices.Equal(other, clue) {
			lines = append(lines, numberedLine(number, cells))
		}
	}
	return lines
}

// rowsOf returns the rows of a picture with the given numbers of rows.
func rowsOf(numbers []int, columns int) [][]bool {
	rows := make([][]bool, len(numbers))
	for row, number := range numbers {
		rows[row] = filledCells(numberedLine(number, columns))
	}
	return rows
}

func numbersOf(rows [][]bool) []int {
	numbers := make([]int, len(rows))
	for row, cells := range rows {
		for k, filled := range cells {
			if filled {
				numbers[row] += 1 << k
			}
		}
	}
	return numbers
}

// columnNumbers returns the numbers of the columns of a picture.
func columnNumbers(numbers []int, columns int) []int {
	others := make([]int, columns)
	for row, number := range numbers {
		for column, cell := range numberedLine(number, columns) {
			others[column] += cell << row
		}
	}
	return others
}

func cluesOfNumbers(numbers []int, cells int) [][]int {
	clues := make([][]int, len(numbers))
	for k, number := range numbers {
		clues[k] = numberedClues[cells][number]
	}
	return clues
}

// cluesOfPicture reads the clues off a picture.
func cluesOfPicture(numbers []int, columns int) impl.Picture {
	return impl.Picture{
		Rows: cluesOfNumbers(numbers, columns),
		Cols: cluesOfNumbers(columnNumbers(numbers, columns), len(numbers)),
	}
}

func sameClues(clues [][]int, others [][]int) bool {
	return slices.EqualFunc(clues, others, slices.Equal)
}

func samePicture(p impl.Picture, other impl.Picture) bool {
	return sameClues(p.Rows, other.Rows) && sameClues(p.Cols, other.Cols)
}

// taskOf looks for the pictures of a puzzle by putting together all rows that have their clues.
func taskOf(p impl.Picture) pictureTask {
	pictures := [][]int{{}}
	for _, clue := range p.Rows {
		var longer [][]int
		for _, picture := range pictures {
			for number, other := range numberedClues[len(p.Cols)] {
				if slices.Equal(clue, other) {
					longer = append(longer, append(slices.Clone(picture), number))
				}
			}
		}
		pictures = longer
	}
	return pictureTask{p, slices.DeleteFunc(pictures, func(numbers []int) bool {
		columns := columnNumbers(numbers, len(p.Cols))
		return !sameClues(cluesOfNumbers(columns, len(p.Rows)), p.Cols)
	})}
}

// eachPictureTask visits puzzles with no picture, one and several.
func eachPictureTask(visit func(task pictureTask)) {
	eachSmallTask(visit)
	eachTaskOfPictures(visit)
	someLargeTasks(visit)
	for _, task := range specialTasks() {
		visit(task)
	}
}

// eachSmallTask visits every puzzle with one row or column, with two rows or columns, and of three and three; of those with two and five a fixed selection.
func eachSmallTask(visit func(task pictureTask)) {
	visited := 0
	for rows := 1; rows <= 5; rows++ {
		for columns := 1; columns <= 5; columns++ {
			if min(rows, columns) > 2 && max(rows, columns) > 3 {
				continue
			}
			for _, across := range tuplesOf(rows, validClues(columns)) {
				for _, down := range tuplesOf(columns, validClues(rows)) {
					if visited++; rows*columns < 10 || visited%5 == 0 {
						visit(taskOf(impl.Picture{Rows: across, Cols: down}))
					}
				}
			}
		}
	}
}

// tuplesOf lists all ways to choose so many clues.
func tuplesOf(many int, clues [][]int) [][][]int {
	var list [][][]int
	for _, numbers := range tuples(many, 0, len(clues)-1) {
		chosen := make([][]int, many)
		for k, number := range numbers {
			chosen[k] = clues[number]
		}
		list = append(list, chosen)
	}
	return list
}

// eachTaskOfPictures visits the puzzle of every picture of three and four rows and columns, and of some pictures of four and four and of three and five.
func eachTaskOfPictures(visit func(task pictureTask)) {
	for _, shape := range []struct{ rows, columns, step int }{{3, 4, 1}, {4, 3, 1}, {4, 4, 11}, {3, 5, 13}, {5, 3, 13}} {
		for k, numbers := range tuples(shape.rows, 0, 1<<shape.columns-1) {
			if k%shape.step != 0 {
				continue
			}
			visit(taskOf(cluesOfPicture(numbers, shape.columns)))
		}
	}
}

// someLargeTasks visits a fixed selection of the puzzles with four and five rows and columns: those of pictures of every density, the same with a clue changed, and with two clues exchanged.
func someLargeTasks(visit func(task pictureTask)) {
	next := fixedNumbers()
	for _, shape := range [][2]int{{4, 4}, {4, 5}, {5, 4}, {5, 5}} {
		for density := range 17 {
			for range 40 {
				p := cluesOfPicture(somePicture(shape[0], shape[1], density, next), shape[1])
				visit(taskOf(p))
				visit(taskOf(withOtherClue(p, next)))
				visit(taskOf(withExchanged(p, next)))
			}
		}
	}
}

func somePicture(rows int, columns int, density int, next func(limit uint32) int) []int {
	numbers := make([]int, rows)
	for row := range numbers {
		for k := range columns {
			if next(16) < density {
				numbers[row] += 1 << k
			}
		}
	}
	return numbers
}

func copiedPicture(p impl.Picture) impl.Picture {
	return impl.Picture{Rows: slices.Clone(p.Rows), Cols: slices.Clone(p.Cols)}
}

func withOtherClue(p impl.Picture, next func(limit uint32) int) impl.Picture {
	changed := copiedPicture(p)
	clues := validClues(len(p.Cols))
	changed.Rows[next(uint32(len(p.Rows)))] = clues[next(uint32(len(clues)))]
	return changed
}

func withExchanged(p impl.Picture, next func(limit uint32) int) impl.Picture {
	changed := copiedPicture(p)
	for _, clues := range [][][]int{changed.Rows, changed.Cols} {
		a, b := next(uint32(len(clues))), next(uint32(len(clues)))
		clues[a], clues[b] = clues[b], clues[a]
	}
	return changed
}

// specialTasks lists puzzles with very many pictures, and some that lines alone do not tell.
func specialTasks() []pictureTask {
	one, two, pair := []int{1}, []int{2}, []int{1, 1}
	var tasks []pictureTask
	for _, p := range []impl.Picture{
		// The only puzzle with more than 100 pictures, 120, and those that follow with 72 and 68.
		{Rows: [][]int{one, one, one, one, one}, Cols: [][]int{one, one, one, one, one}},
		{Rows: [][]int{one, one, one, one, pair}, Cols: [][]int{pair, one, one, one, one}},
		{Rows: [][]int{pair, one, one, one, pair}, Cols: [][]int{pair, one, one, one, pair}},
		// One picture, of which the lines alone tell nothing.
		{Rows: [][]int{pair, two}, Cols: [][]int{one, one, one, one}},
		{Rows: [][]int{one, one, one, one}, Cols: [][]int{two, pair}},
		// No picture, which the lines alone do not notice.
		{Rows: [][]int{one, one}, Cols: [][]int{one, one, one}},
		{Rows: [][]int{one, pair}, Cols: [][]int{one, one, one, one}},
	} {
		tasks = append(tasks, taskOf(p))
	}
	return tasks
}

// knownByRounds makes rounds over all lines until one changes nothing.
func knownByRounds(p impl.Picture) ([][]int, bool) {
	rows := make([][]int, len(p.Rows))
	for row := range rows {
		rows[row] = nothingKnown(len(p.Cols))
	}
	for {
		next, ok := roundOfRows(p.Rows, rows)
		if !ok {
			return nil, false
		}
		columns, ok := roundOfRows(p.Cols, exchanged(next))
		if !ok {
			return nil, false
		}
		if next = exchanged(columns); sameClues(next, rows) {
			return rows, true
		}
		rows = next
	}
}

func roundOfRows(clues [][]int, rows [][]int) ([][]int, bool) {
	next := make([][]int, len(rows))
	for row, clue := range clues {
		lines := agreeing(linesWith(clue, len(rows[row])), rows[row])
		if len(lines) == 0 {
			return nil, false
		}
		next[row] = sharedBy(lines)
	}
	return next, true
}

// exchanged returns the columns as rows.
func exchanged(rows [][]int) [][]int {
	columns := make([][]int, len(rows[0]))
	for _, row := range rows {
		for column, value := range row {
			columns[column] = append(columns[column], value)
		}
	}
	return columns
}

// invalidPictures names every way in which a picture puzzle can be invalid.
func invalidPictures() []impl.Picture {
	list := []impl.Picture{
		{},
		{Rows: [][]int{}, Cols: [][]int{}},
		{Rows: [][]int{nil}},
		{Cols: [][]int{nil}},
		{Rows: [][]int{{1}}},
		{Cols: [][]int{{1}}},
		{Rows: [][]int{{2}}, Cols: [][]int{{1}}},
		{Rows: [][]int{{1}}, Cols: [][]int{{2}}},
		// Each clue would be valid in the other direction.
		{Rows: [][]int{{3}, nil, nil}, Cols: [][]int{nil, nil}},
		{Rows: [][]int{nil, nil}, Cols: [][]int{{3}, nil, nil}},
		{Rows: [][]int{{1, 1}, nil, nil}, Cols: [][]int{nil, nil}},
		{Rows: [][]int{nil, nil}, Cols: [][]int{nil, nil, {1, 1}}},
		{Rows: [][]int{{5}, {5}, {5}, {5}}, Cols: [][]int{{5}, {5}, {5}, {5}, {5}}},
		{Rows: [][]int{{5}, {5}, {5}, {5}, {5}}, Cols: [][]int{{5}, {5}, {5}, {5}}},
	}
	for _, many := range []int{6, 7, 8, 9, 10, 256, 257, 260, 1000} {
		for _, other := range []int{0, 1, 2, 5, 6, many} {
			long, short := make([][]int, many), make([][]int, other)
			list = append(list, impl.Picture{Rows: long, Cols: short}, impl.Picture{Rows: short, Cols: long})
		}
	}
	for _, clue := range append(invalidClues(), []int{6}, []int{5, 1}, []int{1, 4}, []int{2, 3}, []int{1, 1, 2}, []int{1, 1, 1, 1}, []int{7}, []int{8}) {
		for _, shape := range [][2]int{{1, 1}, {2, 5}, {5, 3}, {5, 5}} {
			list = append(list, withClueEverywhere(shape[0], shape[1], clue)...)
		}
	}
	return list
}

// withClueEverywhere lists the puzzles in which a clue is that of one line, and the clues of all others are empty.
func withClueEverywhere(rows int, columns int, clue []int) []impl.Picture {
	var list []impl.Picture
	for line := range rows + columns {
		p := impl.Picture{Rows: make([][]int, rows), Cols: make([][]int, columns)}
		if line < rows {
			p.Rows[line] = clue
		} else {
			p.Cols[line-rows] = clue
		}
		list = append(list, p)
	}
	return list
}

func TestSizesOfPictures(t *testing.T) {
	if impl.MaxSide != 5 {
		t.Fatal(impl.MaxSide)
	}
}

// agreesWith tells whether a picture has everything that is known of its rows.
func agreesWith(numbers []int, known [][]int) bool {
	if len(known) != len(numbers) {
		return false
	}
	for row, number := range numbers {
		if !keeps(numberedLine(number, len(known[row])), known[row]) {
			return false
		}
	}
	return true
}

func allKnown(rows [][]int) bool {
	return !slices.ContainsFunc(rows, func(row []int) bool { return slices.Contains(row, -1) })
}

func TestP10EveryPicture(t *testing.T) {
	told, hidden, several, refused, unnoticed := 0, 0, 0, 0, 0
	eachPictureTask(func(task pictureTask) {
		known, ok := impl.PictureLines(task.p)
		want, can := knownByRounds(task.p)
		if ok != can || !sameClues(known, want) {
			t.Fatalf("the lines of %v tell %v, %v, not %v, %v", task.p, known, ok, want, can)
		}
		for _, picture := range task.pictures {
			if !agreesWith(picture, known) {
				t.Fatalf("the lines of %v tell %v, but the picture %v has the clues", task.p, known, picture)
			}
		}
		whole := ok && allKnown(known)
		if whole && len(task.pictures) != 1 {
			t.Fatalf("the lines of %v tell %v, but %d pictures have the clues", task.p, known, len(task.pictures))
		}
		switch {
		case !ok:
			refused++
		case whole:
			told++
		case len(task.pictures) == 0:
			unnoticed++
		case len(task.pictures) == 1:
			hidden++
		default:
			several++
		}
	})
	if min(told, hidden, several, refused, unnoticed) < 100 {
		t.Errorf("too few puzzles that lines tell (%d), that they do not tell (%d), with several pictures (%d), with none (%d), or with none that lines do not notice (%d)", told, hidden, several, refused, unnoticed)
	}
}

func TestP10SomePictures(t *testing.T) {
	one, two, pair := []int{1}, []int{2}, []int{1, 1}
	for _, c := range []struct {
		rows, cols [][]int
		want       [][]int
		ok         bool
	}{
		// Lines alone are enough.
		{[][]int{nil}, [][]int{nil}, [][]int{{0}}, true},
		{[][]int{one}, [][]int{one}, [][]int{{1}}, true},
		{[][]int{two, one}, [][]int{two, one}, [][]int{{1, 1}, {1, 0}}, true},
		{[][]int{one, two}, [][]int{one, two}, [][]int{{0, 1}, {1, 1}}, true},
		{[][]int{pair}, [][]int{one, nil, nil, one}, [][]int{{1, 0, 0, 1}}, true},
		{[][]int{one, {3}, one}, [][]int{one, {3}, one}, [][]int{{0, 1, 0}, {1, 1, 1}, {0, 1, 0}}, true},
		{[][]int{{5}, pair, pair, pair, {5}}, [][]int{{5}, pair, pair, pair, {5}}, [][]int{{1, 1, 1, 1, 1}, {1, 0, 0, 0, 1}, {1, 0, 0, 0, 1}, {1, 0, 0, 0, 1}, {1, 1, 1, 1, 1}}, true},
		{[][]int{{3}, one, {3}, one, {3}}, [][]int{{3, 1}, {1, 1, 1}, {1, 3}}, [][]int{{1, 1, 1}, {1, 0, 0}, {1, 1, 1}, {0, 0, 1}, {1, 1, 1}}, true},
		// Several pictures.
		{[][]int{one, one}, [][]int{one, one}, [][]int{{-1, -1}, {-1, -1}}, true},
		{[][]int{one, two, one}, [][]int{one, two, one}, [][]int{{-1, -1, -1}, {-1, 1, -1}, {-1, -1, -1}}, true},
		// One picture, which the lines alone do not tell.
		{[][]int{pair, two}, [][]int{one, one, one, one}, [][]int{{-1, -1, -1, -1}, {-1, -1, -1, -1}}, true},
		{[][]int{two, pair, nil}, [][]int{one, one, one, one}, [][]int{{-1, -1, -1, -1}, {-1, -1, -1, -1}, {0, 0, 0, 0}}, true},
		{[][]int{pair, one, two}, [][]int{two, one, one, one}, [][]int{{-1, -1, -1, -1}, {1, 0, 0, 0}, {-1, -1, -1, -1}}, true},
		{[][]int{two, {4}, {3}, one, nil}, [][]int{pair, two, two, two, two}, [][]int{{-1, -1, 0, -1, -1}, {-1, 1, 1, 1, -1}, {-1, -1, 1, -1, -1}, {-1, 0, 0, 0, -1}, {0, 0, 0, 0, 0}}, true},
		// No picture, which the lines alone do not notice.
		{[][]int{one, one}, [][]int{one, one, one}, [][]int{{-1, -1, -1}, {-1, -1, -1}}, true},
		{[][]int{one, pair}, [][]int{one, one, one, one}, [][]int{{-1, -1, -1, -1}, {-1, -1, -1, -1}}, true},
		// No picture: a row, a column, or a line of a later round does not go with the others.
		{[][]int{one}, [][]int{nil}, nil, false},
		{[][]int{nil}, [][]int{one}, nil, false},
		{[][]int{two, two}, [][]int{one, one}, nil, false},
		{[][]int{nil, nil}, [][]int{one, one}, nil, false},
		{[][]int{two, nil}, [][]int{two, nil}, nil, false},
		{[][]int{one, two, nil}, [][]int{one, one, nil}, nil, false},
	} {
		p := impl.Picture{Rows: c.rows, Cols: c.cols}
		if known, ok := impl.PictureLines(p); ok != c.ok || !sameClues(known, c.want) {
			t.Errorf("the lines of %v tell %v, %v", p, known, ok)
		}
	}
}

func TestP10InvalidPictures(t *testing.T) {
	for _, p := range invalidPictures() {
		if known, ok := impl.PictureLines(p); ok || len(known) != 0 {
			t.Errorf("the lines of %v tell %v, %v", p, known, ok)
		}
	}
}

// validPicture tells whether the lines of a puzzle are few enough, and some line has each of its clues.
func validPicture(p impl.Picture) bool {
	return len(p.Rows) >= 1 && len(p.Rows) <= 5 && len(p.Cols) >= 1 && len(p.Cols) <= 5 &&
		cluesOfLines(p.Rows, len(p.Cols)) && cluesOfLines(p.Cols, len(p.Rows))
}

func cluesOfLines(clues [][]int, cells int) bool {
	return !slices.ContainsFunc(clues, func(clue []int) bool { return !hasClue(numberedClues[cells], clue) })
}

// changedPictures lists the puzzles that have a line more or less than another one, or a clue with a number that is more or less or greater by one.
func changedPictures(p impl.Picture) []impl.Picture {
	var list []impl.Picture
	for _, rows := range changedClues(p.Rows) {
		list = append(list, impl.Picture{Rows: rows, Cols: p.Cols})
	}
	for _, cols := range changedClues(p.Cols) {
		list = append(list, impl.Picture{Rows: p.Rows, Cols: cols})
	}
	return list
}

func changedClues(clues [][]int) [][][]int {
	list := [][][]int{nil, clues[1:], clues[:len(clues)-1], slices.Concat(clues, [][]int{nil}), slices.Concat(clues, [][]int{{1}}), slices.Concat(clues, clues)}
	for line, clue := range clues {
		others := [][]int{nil, slices.Concat(clue, []int{1}), slices.Concat([]int{0}, clue), slices.Concat(clue, []int{0}), slices.Concat(clue, []int{-1})}
		for place := range clue {
			for _, by := range []int{1, -1, -clue[place], -2 * clue[place], math.MaxInt - clue[place]} {
				other := slices.Clone(clue)
				other[place] += by
				others = append(others, other)
			}
		}
		for _, other := range others {
			changed := slices.Clone(clues)
			changed[line] = other
			list = append(list, changed)
		}
	}
	return list
}

func TestP57EveryPicture(t *testing.T) {
	visited, valid, invalid := 0, 0, 0
	eachPictureTask(func(task pictureTask) {
		if !impl.PictureValid(task.p) {
			t.Fatalf("%v is refused", task.p)
		}
		if impl.PictureValid(impl.Picture{Cols: task.p.Cols}) || impl.PictureValid(impl.Picture{Rows: task.p.Rows}) {
			t.Fatalf("%v is accepted without rows, or without columns", task.p)
		}
		if visited++; visited%10 != 0 {
			return
		}
		for _, p := range changedPictures(task.p) {
			want := validPicture(p)
			if impl.PictureValid(p) != want {
				t.Fatalf("%v: %v", p, !want)
			}
			if want {
				valid++
			} else {
				invalid++
			}
		}
	})
	if min(valid, invalid) < 10000 {
		t.Errorf("too few changed puzzles that are valid (%d) or invalid (%d)", valid, invalid)
	}
}

func TestP57LongClues(t *testing.T) {
	clues := append(invalidClues(), validClues(5)...)
	for many := range 4 {
		clues = append(clues, tuples(many, -1, 6)...)
	}
	for rows := 1; rows <= 5; rows++ {
		for columns := 1; columns <= 5; columns++ {
			for _, clue := range clues {
				for line, p := range withClueEverywhere(rows, columns, clue) {
					cells := columns
					if line >= rows {
						cells = rows
					}
					if impl.PictureValid(p) != hasClue(numberedClues[cells], clue) {
						t.Fatalf("%v: %v", p, impl.PictureValid(p))
					}
				}
			}
		}
	}
}

func TestP57Sides(t *testing.T) {
	for rows := range 12 {
		for columns := range 12 {
			p := impl.Picture{Rows: make([][]int, rows), Cols: make([][]int, columns)}
			if want := rows >= 1 && rows <= 5 && columns >= 1 && columns <= 5; impl.PictureValid(p) != want {
				t.Errorf("%d rows and %d columns: %v", rows, columns, !want)
			}
		}
	}
}

func TestP57InvalidPictures(t *testing.T) {
	for _, p := range invalidPictures() {
		if impl.PictureValid(p) {
			t.Errorf("%v is accepted", p)
		}
	}
}

// eachSetOfRows visits every picture of up to twelve cells, some of those of fifteen and sixteen, and a selection of those of twenty and more, given by the numbers of its rows.
func eachSetOfRows(visit func(numbers []int, columns int)) {
	for rows := 1; rows <= 5; rows++ {
		for columns := 1; columns <= 5; columns++ {
			if rows*columns <= 16 {
				eachWithStep(rows, columns, max(1, rows*columns-11), visit)
			}
		}
	}
	next := fixedNumbers()
	for _, shape := range [][2]int{{4, 5}, {5, 4}, {5, 5}} {
		for density := range 17 {
			for range 200 {
				visit(somePicture(shape[0], shape[1], density, next), shape[1])
			}
		}
	}
}

func eachWithStep(rows int, columns int, step int, visit func(numbers []int, columns int)) {
	for k, numbers := range tuples(rows, 0, 1<<columns-1) {
		if k%step == 0 {
			visit(numbers, columns)
		}
	}
}

func TestP58EveryPicture(t *testing.T) {
	eachSetOfRows(func(numbers []int, columns int) {
		p, ok := impl.PictureOf(rowsOf(numbers, columns))
		if want := cluesOfPicture(numbers, columns); !ok || !samePicture(p, want) {
			t.Fatalf("the rows %v of %d cells have the clues %v, %v, not %v", numbers, columns, p, ok, want)
		}
		if !impl.PictureValid(p) {
			t.Fatalf("the rows %v of %d cells have the clues %v, which are refused", numbers, columns, p)
		}
		if known, ok := impl.PictureLines(p); !ok || !agreesWith(numbers, known) {
			t.Fatalf("the rows %v of %d cells have the clues %v, whose lines tell %v, %v", numbers, columns, p, known, ok)
		}
		if count := impl.PictureCount(p, 1); count != 1 {
			t.Fatalf("the rows %v of %d cells have the clues %v, with %d pictures", numbers, columns, p, count)
		}
		if _, ok := impl.PictureFirst(p); !ok {
			t.Fatalf("the rows %v of %d cells have the clues %v, without a first picture", numbers, columns, p)
		}
	})
}

func TestP58SomePictures(t *testing.T) {
	for _, c := range []struct {
		rows [][]bool
		want impl.Picture
	}{
		{[][]bool{{false}}, impl.Picture{Rows: [][]int{nil}, Cols: [][]int{nil}}},
		{[][]bool{{true}}, impl.Picture{Rows: [][]int{{1}}, Cols: [][]int{{1}}}},
		{[][]bool{{true, true}, {true, false}}, impl.Picture{Rows: [][]int{{2}, {1}}, Cols: [][]int{{2}, {1}}}},
		{[][]bool{{true, false, true, true}}, impl.Picture{Rows: [][]int{{1, 2}}, Cols: [][]int{{1}, nil, {1}, {1}}}},
		{[][]bool{{true}, {true}, {false}, {true}}, impl.Picture{Rows: [][]int{{1}, {1}, nil, {1}}, Cols: [][]int{{2, 1}}}},
		{[][]bool{{true, false, false}, {false, false, true}}, impl.Picture{Rows: [][]int{{1}, {1}}, Cols: [][]int{{1}, nil, {1}}}},
		{rowsOf([]int{21, 0, 21, 0, 21}, 5), impl.Picture{Rows: [][]int{{1, 1, 1}, nil, {1, 1, 1}, nil, {1, 1, 1}}, Cols: [][]int{{1, 1, 1}, nil, {1, 1, 1}, nil, {1, 1, 1}}}},
		{rowsOf([]int{31, 31, 31, 31, 31}, 5), impl.Picture{Rows: [][]int{{5}, {5}, {5}, {5}, {5}}, Cols: [][]int{{5}, {5}, {5}, {5}, {5}}}},
	} {
		if p, ok := impl.PictureOf(c.rows); !ok || !samePicture(p, c.want) {
			t.Errorf("%v has the clues %v, %v", c.rows, p, ok)
		}
	}
}

// invalidRows lists rows of which there are too few or too many, or that have too few or too many cells, or not all as many.
func invalidRows() [][][]bool {
	list := [][][]bool{nil, {}}
	for _, many := range []int{0, 1, 2, 5, 6, 7, 8, 9, 10, 256, 257, 1000} {
		for _, cells := range []int{0, 1, 2, 5, 6, 7, 8, 9, 10, 256, 257, 1000} {
			if many < 1 || many > 5 || cells < 1 || cells > 5 {
				list = append(list, evenRows(many, cells))
			}
		}
	}
	for many := 2; many <= 5; many++ {
		for cells := range 7 {
			for row := range many {
				for _, other := range []int{0, 1, 2, 3, 4, 5, 6, 8, 9, 256 + cells} {
					if other != cells {
						rows := evenRows(many, cells)
						rows[row] = make([]bool, other)
						list = append(list, rows)
					}
				}
			}
		}
	}
	return append(list, [][]bool{{true, true}, {true}, {true, true, true}}, [][]bool{{true}, nil}, [][]bool{nil, {true}})
}

func evenRows(many int, cells int) [][]bool {
	rows := make([][]bool, many)
	for row := range rows {
		rows[row] = make([]bool, cells)
		for k := range rows[row] {
			rows[row][k] = (row+k)%3 != 0
		}
	}
	return rows
}

func TestP58InvalidRows(t *testing.T) {
	for _, rows := range invalidRows() {
		if p, ok := impl.PictureOf(rows); ok || len(p.Rows) != 0 || len(p.Cols) != 0 {
			t.Errorf("%v has the clues %v, %v", rows, p, ok)
		}
	}
}

func TestP59EveryPicture(t *testing.T) {
	none, one, several := 0, 0, 0
	eachPictureTask(func(task pictureTask) {
		before := 0
		for _, most := range []int{1, 2, 3, 24, 100} {
			count := impl.PictureCount(task.p, most)
			if want := min(len(task.pictures), most); count != want {
				t.Fatalf("%v has %d pictures, not %d, with the limit %d", task.p, count, want, most)
			}
			if count < before {
				t.Fatalf("%v has %d pictures with the limit %d, and %d with a smaller one", task.p, count, most, before)
			}
			before = count
		}
		if _, ok := impl.PictureFirst(task.p); ok != (before > 0) {
			t.Fatalf("%v has %d pictures, and a first one: %v", task.p, before, ok)
		}
		switch before {
		case 0:
			none++
		case 1:
			one++
		default:
			several++
		}
	})
	if min(none, one, several) < 1000 {
		t.Errorf("too few puzzles with no picture (%d), one (%d), or several (%d)", none, one, several)
	}
}

func TestP59EveryLimit(t *testing.T) {
	for _, task := range specialTasks() {
		for most := 1; most <= 100; most++ {
			if count := impl.PictureCount(task.p, most); count != min(len(task.pictures), most) {
				t.Fatalf("%v has %d pictures, but %d with the limit %d", task.p, len(task.pictures), count, most)
			}
		}
	}
}

func TestP59SomePictures(t *testing.T) {
	one, two, pair := []int{1}, []int{2}, []int{1, 1}
	for _, c := range []struct {
		rows, cols [][]int
		want       int
	}{
		{[][]int{nil}, [][]int{nil}, 1},
		{[][]int{one}, [][]int{one}, 1},
		{[][]int{one}, [][]int{nil}, 0},
		{[][]int{one, one}, [][]int{one, one}, 2},
		{[][]int{two, two}, [][]int{one, one}, 0},
		{[][]int{one, one}, [][]int{one, one, one}, 0},
		{[][]int{one, one, one}, [][]int{one, one, one}, 6},
		{[][]int{one, one, one, one}, [][]int{one, one, one, one}, 24},
		{[][]int{one, one, one, one, one}, [][]int{one, one, one, one, one}, 100},
		{[][]int{one, one, one, one, pair}, [][]int{pair, one, one, one, one}, 72},
		{[][]int{pair, one, one, one, pair}, [][]int{pair, one, one, one, pair}, 68},
		{[][]int{pair, two}, [][]int{one, one, one, one}, 1},
		{[][]int{one, pair}, [][]int{one, one, one, one}, 0},
		{[][]int{two, {4}, {3}, one, nil}, [][]int{pair, two, two, two, two}, 1},
		{[][]int{{5}, {5}, {5}, {5}, {5}}, [][]int{{5}, {5}, {5}, {5}, {5}}, 1},
		{[][]int{{5}, {5}, {5}, {5}, {5}}, [][]int{{5}, {5}, {5}, {5}, {4}}, 0},
	} {
		p := impl.Picture{Rows: c.rows, Cols: c.cols}
		if count := impl.PictureCount(p, 100); count != c.want {
			t.Errorf("%v has %d pictures", p, count)
		}
	}
}

func TestP59InvalidArguments(t *testing.T) {
	for _, p := range invalidPictures() {
		for _, most := range []int{-1, 0, 1, 2, 100, 101} {
			if count := impl.PictureCount(p, most); count != -1 {
				t.Errorf("%v has %d pictures with the limit %d", p, count, most)
			}
		}
	}
	for _, task := range append(specialTasks(), taskOf(cluesOfPicture([]int{0}, 1)), taskOf(cluesOfPicture([]int{1}, 1))) {
		for _, most := range []int{0, -1, -2, -100, 101, 102, 120, 121, 200, 256, 257, 600, 1 << 32, 1<<32 + 1, math.MaxInt, math.MinInt, math.MinInt + 1} {
			if count := impl.PictureCount(task.p, most); count != -1 {
				t.Errorf("%v has %d pictures with the limit %d", task.p, count, most)
			}
		}
	}
}

func TestP60EveryPicture(t *testing.T) {
	found, first, none := 0, 0, 0
	eachPictureTask(func(task pictureTask) {
		rows, ok := impl.PictureFirst(task.p)
		if len(task.pictures) == 0 {
			if none++; ok || len(rows) != 0 {
				t.Fatalf("%v has no picture, but the first one is %v, %v", task.p, rows, ok)
			}
			return
		}
		if !ok || !slices.Equal(numbersOf(rows), task.pictures[0]) {
			t.Fatalf("the first picture of %v is %v, %v, not %v", task.p, rows, ok, task.pictures[0])
		}
		if p, ok := impl.PictureOf(rows); !ok || !samePicture(p, task.p) {
			t.Fatalf("the first picture of %v is %v with the clues %v, %v", task.p, rows, p, ok)
		}
		if found++; len(task.pictures) > 1 {
			first++
		}
	})
	if min(found, first, none) < 1000 {
		t.Errorf("too few puzzles with pictures (%d), with several (%d), or with none (%d)", found, first, none)
	}
}

func TestP60SomePictures(t *testing.T) {
	one, two, pair := []int{1}, []int{2}, []int{1, 1}
	for _, c := range []struct {
		rows, cols [][]int
		want       []int
	}{
		{[][]int{nil}, [][]int{nil}, []int{0}},
		{[][]int{one}, [][]int{one}, []int{1}},
		// A row with its first cell filled comes before one with a later cell filled.
		{[][]int{one, one}, [][]int{one, one}, []int{1, 2}},
		{[][]int{one, one, one}, [][]int{one, one, one}, []int{1, 2, 4}},
		{[][]int{one, one, one, one, one}, [][]int{one, one, one, one, one}, []int{1, 2, 4, 8, 16}},
		// The last cell of a row that differs decides: 1 0 1 comes after 1 1 0.
		{[][]int{two, pair}, [][]int{one, one, one, one}, []int{6, 9}},
		{[][]int{two, two}, [][]int{one, one, one, one}, []int{3, 12}},
		{[][]int{one, pair, one}, [][]int{one, one, one, one}, []int{1, 10, 4}},
		{[][]int{pair, one}, [][]int{one, one, one}, []int{5, 2}},
		// The first row decides, not the others.
		{[][]int{one, two, one}, [][]int{one, two, one}, []int{1, 6, 2}},
		{[][]int{pair, one, one}, [][]int{one, one, one, one}, []int{5, 2, 8}},
		// One picture, which the lines alone do not tell.
		{[][]int{pair, two}, [][]int{one, one, one, one}, []int{9, 6}},
		{[][]int{two, {4}, {3}, one, nil}, [][]int{pair, two, two, two, two}, []int{3, 30, 28, 1, 0}},
	} {
		p := impl.Picture{Rows: c.rows, Cols: c.cols}
		rows, ok := impl.PictureFirst(p)
		if !ok || !slices.EqualFunc(rows, rowsOf(c.want, len(c.cols)), slices.Equal) {
			t.Errorf("the first picture of %v is %v, %v", p, rows, ok)
		}
	}
}

func TestP60InvalidPictures(t *testing.T) {
	for _, p := range invalidPictures() {
		if rows, ok := impl.PictureFirst(p); ok || len(rows) != 0 {
			t.Errorf("the first picture of %v is %v, %v", p, rows, ok)
		}
	}
}

func TestP123EveryPicture(t *testing.T) {
	eachPictureTask(func(task pictureTask) {
		turned := impl.Picture{Rows: task.p.Cols, Cols: task.p.Rows}
		if !impl.PictureValid(turned) {
			t.Fatalf("%v is refused", turned)
		}
		for _, most := range []int{1, 2, 100} {
			if count, want := impl.PictureCount(turned, most), impl.PictureCount(task.p, most); count != want || want < 0 {
				t.Fatalf("%v has %d pictures, but %d with rows and columns exchanged, with the limit %d", task.p, want, count, most)
			}
		}
		known, ok := impl.PictureLines(task.p)
		others, still := impl.PictureLines(turned)
		if ok != still || ok && !sameClues(exchanged(known), others) {
			t.Fatalf("the lines of %v tell %v, %v, but with rows and columns exchanged %v, %v", task.p, known, ok, others, still)
		}
	})
}

func TestP123SomePictures(t *testing.T) {
	eachSetOfRows(func(numbers []int, columns int) {
		p, _ := impl.PictureOf(rowsOf(numbers, columns))
		turned, ok := impl.PictureOf(rowsOf(columnNumbers(numbers, columns), len(numbers)))
		if !ok || !sameClues(p.Rows, turned.Cols) || !sameClues(p.Cols, turned.Rows) {
			t.Fatalf("the rows %v of %d cells have the clues %v, but exchanged with the columns %v, %v", numbers, columns, p, turned, ok)
		}
	})
}

func TestP123InvalidPictures(t *testing.T) {
	for _, p := range invalidPictures() {
		turned := impl.Picture{Rows: p.Cols, Cols: p.Rows}
		if impl.PictureValid(turned) || impl.PictureCount(turned, 100) != -1 {
			t.Errorf("%v is accepted", turned)
		}
	}
}

// whole returns a list with its spare capacity.
func whole[T any](list []T) []T {
	return list[:cap(list)]
}

// pictureWithSpare returns the same puzzle in memory that goes on behind every list.
func pictureWithSpare(p impl.Picture) impl.Picture {
	return impl.Picture{Rows: cluesWithSpare(p.Rows), Cols: cluesWithSpare(p.Cols)}
}

func cluesWithSpare(clues [][]int) [][]int {
	kept := make([][]int, len(clues), len(clues)+2)
	for k, clue := range clues {
		kept[k] = withSpare(clue)
	}
	return append(kept, []int{77}, []int{77})[:len(clues)]
}

func cluesTouched(kept [][]int, clues [][]int) bool {
	if !sameClues(kept, clues) || slices.ContainsFunc(kept, spareTouched) {
		return true
	}
	spare := kept[len(kept) : len(kept)+2]
	return !slices.Equal(spare[0], []int{77}) || !slices.Equal(spare[1], []int{77})
}

func wholeLists(lists ...[]int) [][]int {
	grown := make([][]int, len(lists))
	for k, list := range lists {
		grown[k] = whole(list)
	}
	return grown
}

// copiedLists returns the same lists in memory of their own.
func copiedLists[T any](lists [][]T) [][]T {
	copied := make([][]T, len(lists))
	for k, list := range lists {
		copied[k] = slices.Clone(list)
	}
	return copied
}

// checkPictureUnchanged fails if a call writes to its puzzle, or if the lists of two of its results share memory with the puzzle or with each other.
func checkPictureUnchanged(t *testing.T, p impl.Picture) {
	t.Helper()
	kept := pictureWithSpare(p)
	impl.PictureValid(kept)
	impl.PictureCount(kept, 100)
	known, _ := impl.PictureLines(kept)
	again, _ := impl.PictureLines(kept)
	if !sameClues(known, again) || !listsApart(wholeLists(slices.Concat(known, again)...)) || !rowsApart(known, again) {
		t.Fatalf("what the lines of %v tell shares memory", p)
	}
	first, _ := impl.PictureFirst(kept)
	second, _ := impl.PictureFirst(kept)
	if !slices.EqualFunc(first, second, slices.Equal) || !cellsApart(slices.Concat(first, second)) || !rowsApart(first, second) {
		t.Fatalf("the first pictures of %v share memory", p)
	}
	if cluesTouched(kept.Rows, p.Rows) || cluesTouched(kept.Cols, p.Cols) {
		t.Fatalf("%v was written to", p)
	}
}

// cellsApart writes to rows, and tells whether no two of them share memory.
func cellsApart(rows [][]bool) bool {
	for k := range rows {
		for other := range rows {
			for cell := range whole(rows[other]) {
				whole(rows[other])[cell] = other == k
			}
		}
		for cell := range whole(rows[k]) {
			if !whole(rows[k])[cell] {
				return false
			}
		}
		for cell := range whole(rows[k]) {
			whole(rows[k])[cell] = false
		}
		for other := range rows {
			if slices.Contains(whole(rows[other]), true) {
				return false
			}
		}
	}
	return true
}

// rowsApart empties two lists of rows one after the other, and tells whether the second one was still there.
func rowsApart[T any](rows [][]T, others [][]T) bool {
	lost := func(row []T) bool { return row == nil }
	before := slices.ContainsFunc(others, lost)
	clear(whole(rows))
	return slices.ContainsFunc(others, lost) == before
}

func TestPictureResultsAreNew(t *testing.T) {
	visited := 0
	eachPictureTask(func(task pictureTask) {
		if visited++; visited%5 == 0 {
			checkPictureUnchanged(t, task.p)
		}
	})
	for _, p := range append(invalidPictures(), impl.Picture{Rows: [][]int{{1}, {1}}, Cols: [][]int{{1}, {1}}}) {
		checkPictureUnchanged(t, p)
	}
}

// checkRowsUnchanged fails if PictureOf writes to its rows, or if the clues of two of its results share memory with each other.
func checkRowsUnchanged(t *testing.T, rows [][]bool) {
	t.Helper()
	for _, spare := range []bool{false, true} {
		kept := make([][]bool, len(rows))
		for k, row := range rows {
			kept[k] = append(slices.Clone(row), spare, spare)[:len(row)]
		}
		kept = append(kept, []bool{spare}, nil)[:len(rows)]
		p, _ := impl.PictureOf(kept)
		again, _ := impl.PictureOf(kept)
		want := impl.Picture{Rows: copiedLists(p.Rows), Cols: copiedLists(p.Cols)}
		if !samePicture(again, want) || !listsApart(wholeLists(slices.Concat(p.Rows, p.Cols, again.Rows, again.Cols)...)) {
			t.Fatalf("the clues of %v share memory", rows)
		}
		if third, _ := impl.PictureOf(kept); !samePicture(third, want) {
			t.Fatalf("the clues of %v are kept", rows)
		}
		if !rowsApart(p.Rows, p.Cols) || !rowsApart(again.Cols, again.Rows) {
			t.Fatalf("the lists of the clues of %v share memory", rows)
		}
		for k, row := range rows {
			if !slices.Equal(kept[k][:len(row)+2], append(slices.Clone(row), spare, spare)) {
				t.Fatalf("PictureOf wrote to its rows %v", rows)
			}
		}
		if behind := kept[:len(rows)+2][len(rows):]; !slices.Equal(behind[0], []bool{spare}) || behind[1] != nil {
			t.Fatalf("PictureOf wrote behind its rows %v", rows)
		}
	}
}

func TestCluesOfPicturesAreNew(t *testing.T) {
	visited := 0
	eachSetOfRows(func(numbers []int, columns int) {
		if visited++; visited%5 == 0 {
			checkRowsUnchanged(t, rowsOf(numbers, columns))
		}
	})
	for _, rows := range invalidRows() {
		checkRowsUnchanged(t, rows)
	}
}
