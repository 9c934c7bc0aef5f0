package tests

import (
	"fmt"
	"math"
	"slices"
	"strings"
	"testing"

	"loop.example/gridpuzzles/impl"
)

// clueFrom reads the clue off a line of zeros and ones, written as a text in which empty cells are blanks.
func clueFrom(line []int) []int {
	text := ""
	for _, cell := range line {
		text += []string{" ", "#"}[cell]
	}
	var clue []int
	for _, word := range strings.Fields(text) {
		clue = append(clue, len(word))
	}
	return clue
}

// clueWithLines is a clue with all lines of some number of cells that have it, each cell 0 or 1.
type clueWithLines struct {
	clue  []int
	lines [][]int
}

// cluesOf lists the clues that the lines of so many cells have.
func cluesOf(cells int) []clueWithLines {
	var clues []clueWithLines
	for _, line := range tuples(cells, 0, 1) {
		clue := clueFrom(line)
		k := slices.IndexFunc(clues, func(c clueWithLines) bool { return slices.Equal(c.clue, clue) })
		if k < 0 {
			k = len(clues)
			clues = append(clues, clueWithLines{clue: clue})
		}
		clues[k].lines = append(clues[k].lines, line)
	}
	return clues
}

// eachLine visits every line of up to 8 cells, also the one without cells.
func eachLine(visit func(line []int)) {
	for cells := range 9 {
		for _, line := range tuples(cells, 0, 1) {
			visit(line)
		}
	}
}

// eachClueAndKnown visits every clue of every number of cells with everything that can be known of the line, and the lines that agree with both. There are no other valid arguments of LineWays and LineForced.
func eachClueAndKnown(visit func(clue []int, known []int, lines [][]int)) {
	for cells := 1; cells <= 8; cells++ {
		clues := cluesOf(cells)
		for _, known := range tuples(cells, -1, 1) {
			for _, c := range clues {
				visit(c.clue, known, agreeing(c.lines, known))
			}
		}
	}
}

func agreeing(lines [][]int, known []int) [][]int {
	var agree [][]int
	for _, line := range lines {
		if keeps(line, known) {
			agree = append(agree, line)
		}
	}
	return agree
}

// keeps tells whether everything that is known before is known afterwards, and the same.
func keeps(after []int, before []int) bool {
	if len(after) != len(before) {
		return false
	}
	for cell, value := range before {
		if value != -1 && after[cell] != value {
			return false
		}
	}
	return true
}

// sharedBy tells what is the same in all of some lines, at least one.
func sharedBy(lines [][]int) []int {
	shared := slices.Clone(lines[0])
	for _, line := range lines {
		for cell, value := range line {
			if shared[cell] != value {
				shared[cell] = -1
			}
		}
	}
	return shared
}

func nothingKnown(cells int) []int {
	return slices.Repeat([]int{-1}, cells)
}

func backwards(values []int) []int {
	turned := slices.Clone(values)
	slices.Reverse(turned)
	return turned
}

func filledCells(line []int) []bool {
	cells := make([]bool, len(line))
	for k, value := range line {
		cells[k] = value == 1
	}
	return cells
}

func totalOf(numbers []int) int {
	total := 0
	for _, number := range numbers {
		total += number
	}
	return total
}

type clueAndKnown struct{ clue, known []int }

// invalidKnown names every way in which what is known of a line can be invalid, with values that are valid if they lose their upper bits.
func invalidKnown() [][]int {
	list := [][]int{nil, {}, {2}, {-2}, nothingKnown(9), nothingKnown(10), nothingKnown(265), make([]int, 9), slices.Repeat([]int{1}, 9)}
	for _, value := range []int{2, -2, 3, 9, 255, 256, 257, 1 << 32, 1<<32 + 1, math.MaxInt, math.MinInt} {
		for _, cells := range []int{1, 2, 5, 8} {
			for cell := range cells {
				known := nothingKnown(cells)
				known[cell] = value
				list = append(list, known)
			}
		}
	}
	return list
}

// invalidClues names clues that no line of up to 8 cells has, with those among them whose sum wraps around to a small number.
func invalidClues() [][]int {
	return [][]int{
		{0}, {-1}, {9}, {math.MaxInt}, {math.MinInt}, {1<<32 + 1},
		{0, 0}, {0, 1}, {1, 0}, {-1, 1}, {1, -1}, {4, -3}, {-3, 4}, {9, -9}, {-8, 8}, {4, 4}, {7, 1}, {1, 7}, {1, 8}, {8, 1},
		{1, 0, 1}, {2, -1, 2}, {3, 3, 1}, {1, 1, 5}, {2, 2, 3},
		{1, 1, 1, 3}, {1, 1, 1, 0}, {1, 1, 1, -1}, {2, 2, 1, 1}, {1, 1, 1, 1, 1}, {0, 0, 0, 0, 0}, {1, 1, 1, 1, 1, 1, 1, 1},
		{math.MaxInt, math.MaxInt}, {math.MaxInt, math.MaxInt, 1}, {math.MaxInt, math.MaxInt, 2}, {2, math.MaxInt, math.MaxInt},
		{math.MinInt, math.MinInt}, {math.MaxInt, math.MinInt}, {math.MinInt, math.MaxInt}, {1, math.MaxInt}, {math.MaxInt, 1}, {math.MaxInt - 1},
		{1 << 62, 1 << 62, 1 << 62, 1 << 62}, {1<<62 - 1, 1<<62 - 1, 1<<62 - 1, 1<<62 - 1}, slices.Repeat([]int{1 << 61}, 8),
		make([]int, 1000), slices.Repeat([]int{1}, 1000), slices.Repeat([]int{-1}, 1000),
	}
}

// invalidClueAndKnown lists arguments of which one or both are invalid, or which do not go together.
func invalidClueAndKnown() []clueAndKnown {
	var list []clueAndKnown
	for _, known := range invalidKnown() {
		for _, clue := range [][]int{nil, {}, {1}, {1, 1}, {8}, {9}, {0}} {
			list = append(list, clueAndKnown{clue, known})
		}
	}
	for _, clue := range invalidClues() {
		for cells := range 10 {
			list = append(list, clueAndKnown{clue, nothingKnown(cells)}, clueAndKnown{clue, make([]int, cells)})
		}
	}
	// Some of these clues would have lines of one cell more.
	for _, c := range []clueAndKnown{
		{[]int{2}, []int{-1}},
		{[]int{2}, []int{1}},
		{[]int{1, 1}, []int{1, 1}},
		{[]int{1, 1}, []int{-1, -1}},
		{[]int{2, 1}, []int{-1, -1, -1}},
		{[]int{2, 1}, []int{1, 1, 0}},
		{[]int{3, 3}, nothingKnown(6)},
		{[]int{8}, nothingKnown(7)},
		{[]int{1, 1, 1, 1}, nothingKnown(6)},
		{[]int{1, 1, 1, 1}, []int{1, 0, 1, 0, 1, 0}},
	} {
		list = append(list, c)
	}
	return list
}

func TestSizesOfPictureLines(t *testing.T) {
	if impl.MaxLine != 8 {
		t.Fatal(impl.MaxLine)
	}
}

func TestP9EveryLine(t *testing.T) {
	none, one, more, found := 0, 0, 0, 0
	eachClueAndKnown(func(clue []int, known []int, lines [][]int) {
		forced, ok := impl.LineForced(clue, known)
		if ok != (len(lines) > 0) {
			t.Fatalf("%v with %v known: %v, but %d lines", clue, known, ok, len(lines))
		}
		if !ok {
			none++
			if !slices.Equal(forced, known) {
				t.Fatalf("no line has %v with %v known, but it becomes %v", clue, known, forced)
			}
			return
		}
		if want := sharedBy(lines); !slices.Equal(forced, want) {
			t.Fatalf("%v with %v known forces %v, not %v", clue, known, forced, want)
		}
		if !keeps(forced, known) {
			t.Fatalf("%v with %v known forces %v", clue, known, forced)
		}
		if ways := impl.LineWays(clue, forced); ways != len(lines) || ways != impl.LineWays(clue, known) {
			t.Fatalf("%v has %d lines with %v known, but %d with %v", clue, len(lines), known, ways, forced)
		}
		if len(lines) == 1 {
			one++
		} else {
			more++
		}
		if !slices.Equal(forced, known) {
			found++
		}
	})
	if min(none, one, more, found) < 10000 {
		t.Errorf("too few arguments with no line (%d), one (%d), more (%d), or something found (%d)", none, one, more, found)
	}
}

func TestP9SomeLines(t *testing.T) {
	for _, c := range []struct {
		clue, known, want []int
		ok                bool
	}{
		// With nothing known.
		{nil, []int{-1}, []int{0}, true},
		{[]int{1}, []int{-1}, []int{1}, true},
		{[]int{1}, []int{-1, -1}, []int{-1, -1}, true},
		{nil, nothingKnown(8), make([]int, 8), true},
		{[]int{8}, nothingKnown(8), slices.Repeat([]int{1}, 8), true},
		{[]int{7}, nothingKnown(8), []int{-1, 1, 1, 1, 1, 1, 1, -1}, true},
		{[]int{5}, nothingKnown(8), []int{-1, -1, -1, 1, 1, -1, -1, -1}, true},
		{[]int{4}, nothingKnown(8), nothingKnown(8), true},
		{[]int{3, 2}, nothingKnown(8), []int{-1, -1, 1, -1, -1, -1, -1, -1}, true},
		{[]int{4, 3}, nothingKnown(8), []int{1, 1, 1, 1, 0, 1, 1, 1}, true},
		{[]int{1, 1, 1, 1}, nothingKnown(7), []int{1, 0, 1, 0, 1, 0, 1}, true},
		{[]int{1, 1, 1, 1}, nothingKnown(8), nothingKnown(8), true},
		// A filled cell holds a run, and keeps others away.
		{[]int{1}, []int{-1, 1, -1, -1}, []int{0, 1, 0, 0}, true},
		{[]int{2}, []int{-1, -1, 1, -1, -1}, []int{0, -1, 1, -1, 0}, true},
		{[]int{3}, []int{1, -1, -1, -1, -1}, []int{1, 1, 1, 0, 0}, true},
		{[]int{2, 1}, []int{-1, -1, -1, 1, -1, -1}, []int{-1, -1, -1, 1, 0, -1}, true},
		{[]int{2, 2}, []int{-1, -1, 1, -1, -1, -1}, []int{0, 1, 1, 0, 1, 1}, true},
		{[]int{1, 1}, []int{1, -1, 1, -1, -1}, []int{1, 0, 1, 0, 0}, true},
		{[]int{5}, []int{1, -1, -1, -1, 1}, []int{1, 1, 1, 1, 1}, true},
		// An empty cell leaves no room for a run.
		{[]int{3}, []int{-1, -1, 0, -1, -1, -1}, []int{0, 0, 0, 1, 1, 1}, true},
		{[]int{2}, []int{-1, 0, -1, -1, -1}, []int{0, 0, -1, 1, -1}, true},
		{[]int{2, 1}, []int{0, -1, -1, -1, -1}, []int{0, 1, 1, 0, 1}, true},
		{[]int{1, 2}, []int{-1, -1, -1, 0, -1, -1}, []int{-1, -1, -1, 0, 1, 1}, true},
		// All is known already.
		{[]int{2, 1}, []int{1, 1, 0, 1}, []int{1, 1, 0, 1}, true},
		{nil, []int{0, 0, 0}, []int{0, 0, 0}, true},
		// There is no such line.
		{nil, []int{1}, []int{1}, false},
		{[]int{1}, []int{0}, []int{0}, false},
		{nil, []int{-1, -1, 1}, []int{-1, -1, 1}, false},
		{[]int{1}, []int{1, -1, 1}, []int{1, -1, 1}, false},
		{[]int{1}, []int{1, 1}, []int{1, 1}, false},
		{[]int{2}, []int{1, 0, -1, -1}, []int{1, 0, -1, -1}, false},
		{[]int{4}, []int{-1, 0, -1, -1, -1}, []int{-1, 0, -1, -1, -1}, false},
		{[]int{1, 1}, []int{-1, 1, -1}, []int{-1, 1, -1}, false},
		{[]int{1, 2}, []int{1, 1, 0, 1}, []int{1, 1, 0, 1}, false},
	} {
		want := c.want
		if !c.ok {
			want = c.known
		}
		if forced, ok := impl.LineForced(c.clue, c.known); ok != c.ok || !slices.Equal(forced, want) {
			t.Errorf("%v with %v known forces %v, %v", c.clue, c.known, forced, ok)
		}
	}
}

func TestP9InvalidArguments(t *testing.T) {
	for _, c := range invalidClueAndKnown() {
		if forced, ok := impl.LineForced(c.clue, c.known); ok || len(forced) != 0 {
			t.Errorf("%v with %v known forces %v, %v", c.clue, c.known, forced, ok)
		}
	}
}

func TestP53EveryLine(t *testing.T) {
	eachLine(func(line []int) {
		clue := impl.ClueOf(filledCells(line))
		if !slices.Equal(clue, clueFrom(line)) {
			t.Fatalf("%v has the clue %v", line, clue)
		}
		if totalOf(clue) != totalOf(line) {
			t.Fatalf("%v has the clue %v, together %d", line, clue, totalOf(clue))
		}
		if other := impl.ClueOf(filledCells(backwards(line))); !slices.Equal(other, backwards(clue)) {
			t.Fatalf("%v has the clue %v, but in reverse order %v", line, clue, other)
		}
	})
}

func TestP53SomeLines(t *testing.T) {
	for _, c := range []struct{ line, want []int }{
		{nil, nil},
		{[]int{0}, nil},
		{[]int{1}, []int{1}},
		{[]int{0, 0, 0, 0, 0, 0, 0, 0}, nil},
		{[]int{1, 1, 1, 1, 1, 1, 1, 1}, []int{8}},
		{[]int{1, 1, 0, 1}, []int{2, 1}},
		{[]int{1, 0, 1, 1}, []int{1, 2}},
		{[]int{0, 0, 1, 1, 1, 0, 0}, []int{3}},
		{[]int{1, 0, 0, 0, 0, 0, 0, 1}, []int{1, 1}},
		{[]int{1, 0, 1, 0, 1, 0, 1, 0}, []int{1, 1, 1, 1}},
		{[]int{0, 1, 0, 1, 1, 0, 1, 1}, []int{1, 2, 2}},
	} {
		if clue := impl.ClueOf(filledCells(c.line)); !slices.Equal(clue, c.want) {
			t.Errorf("%v has the clue %v", c.line, clue)
		}
	}
}

func TestP53LongLines(t *testing.T) {
	long := tuples(9, 0, 1)
	for _, cells := range []int{10, 16, 256, 257, 264, 1000} {
		long = append(long, make([]int, cells), slices.Repeat([]int{1}, cells), append(make([]int, cells-1), 1), append([]int{1}, make([]int, cells-1)...))
	}
	for _, line := range long {
		if clue := impl.ClueOf(filledCells(line)); len(clue) != 0 {
			t.Fatalf("%v has the clue %v", line, clue)
		}
	}
}

// manyClues lists clues of up to four numbers that are too small, too large or neither, and of up to nine small ones.
func manyClues() [][]int {
	var clues [][]int
	for many := range 5 {
		clues = append(clues, tuples(many, -1, 9)...)
	}
	for many := 5; many <= 9; many++ {
		clues = append(clues, tuples(many, 0, 2)...)
	}
	return append(clues, invalidClues()...)
}

func TestP54EveryClue(t *testing.T) {
	clues := manyClues()
	for cells := -2; cells <= 10; cells++ {
		valid := map[string]int{}
		if cells >= 1 && cells <= 8 {
			for _, c := range cluesOf(cells) {
				valid[fmt.Sprint(c.clue)] = len(c.lines)
			}
		}
		met := 0
		for _, clue := range clues {
			ways := valid[fmt.Sprint(clue)]
			if impl.ClueValid(clue, cells) != (ways > 0) {
				t.Fatalf("%v for %d cells: %v", clue, cells, ways == 0)
			}
			if ways > 0 {
				met++
			} else {
				ways = -1
			}
			if cells >= 0 && impl.LineWays(clue, nothingKnown(cells)) != ways {
				t.Fatalf("%v for %d cells: %d lines, not %d", clue, cells, impl.LineWays(clue, nothingKnown(cells)), ways)
			}
		}
		if met != len(valid) {
			t.Errorf("%d cells: %d of %d clues", cells, met, len(valid))
		}
	}
}

func TestP54SomeClues(t *testing.T) {
	for _, c := range []struct {
		clue  []int
		cells int
		ways  int
	}{
		{nil, 1, 1},
		{[]int{}, 8, 1},
		{[]int{1}, 1, 1},
		{[]int{2}, 1, 0},
		{[]int{8}, 8, 1},
		{[]int{9}, 8, 0},
		{[]int{9}, 9, 0},
		{nil, 9, 0},
		{nil, 0, 0},
		{[]int{1}, 0, 0},
		{nil, -1, 0},
		{nil, math.MinInt, 0},
		{nil, math.MaxInt, 0},
		{[]int{1}, math.MaxInt, 0},
		{[]int{0}, 3, 0},
		{[]int{-1}, 3, 0},
		{[]int{2, 1}, 4, 1},
		{[]int{2, 1}, 3, 0},
		{[]int{2, 1}, 5, 3},
		{[]int{1, 2}, 8, 15},
		{[]int{1}, 8, 8},
		{[]int{1, 1}, 8, 21},
		{[]int{1, 1, 1}, 8, 20},
		{[]int{1, 1, 1, 1}, 8, 5},
		{[]int{1, 1, 1, 1}, 7, 1},
		{[]int{1, 1, 1, 1}, 6, 0},
		{[]int{1, 1, 1, 1, 1}, 8, 0},
		{[]int{1, 1, 1, 1, 1}, 9, 0},
	} {
		if impl.ClueValid(c.clue, c.cells) != (c.ways > 0) {
			t.Errorf("%v for %d cells: %v", c.clue, c.cells, c.ways == 0)
		}
		if c.ways > 0 && impl.LineWays(c.clue, nothingKnown(c.cells)) != c.ways {
			t.Errorf("%v for %d cells: %d lines", c.clue, c.cells, impl.LineWays(c.clue, nothingKnown(c.cells)))
		}
	}
}

func TestP54InvalidClues(t *testing.T) {
	cells := []int{math.MinInt, math.MinInt + 1, -256, 255, 256, 260, 1 << 32, 1<<32 + 4, math.MaxInt - 1, math.MaxInt}
	for k := -9; k <= 20; k++ {
		cells = append(cells, k)
	}
	for _, many := range cells {
		for _, clue := range invalidClues() {
			if impl.ClueValid(clue, many) {
				t.Errorf("%v is accepted for %d cells", clue, many)
			}
		}
		for _, clue := range [][]int{nil, {1}, {1, 1}, {2}, {8}} {
			if (many < 1 || many > 8) && impl.ClueValid(clue, many) {
				t.Errorf("%v is accepted for %d cells", clue, many)
			}
		}
	}
}

func TestP55EveryKnown(t *testing.T) {
	for cells := range 10 {
		for _, known := range tuples(cells, -1, 1) {
			if impl.KnownValid(known) != (cells >= 1 && cells <= 8) {
				t.Fatalf("%v: %v", known, impl.KnownValid(known))
			}
			if cells < 2 || cells > 8 {
				continue
			}
			if !impl.KnownValid(known[:cells-1]) {
				t.Fatalf("%v is refused, but not %v", known[:cells-1], known)
			}
			for cell := range known {
				changed := slices.Clone(known)
				for _, value := range []int{2, -2} {
					if changed[cell] = value; impl.KnownValid(changed) {
						t.Fatalf("%v is accepted", changed)
					}
				}
			}
		}
	}
}

func TestP55InvalidKnown(t *testing.T) {
	for _, known := range invalidKnown() {
		if impl.KnownValid(known) {
			t.Errorf("%v is accepted", known)
		}
	}
}

func TestP56EveryLine(t *testing.T) {
	divided := 0
	eachClueAndKnown(func(clue []int, known []int, lines [][]int) {
		ways := impl.LineWays(clue, known)
		if ways != len(lines) {
			t.Fatalf("%v with %v known has %d lines, not %d", clue, known, ways, len(lines))
		}
		for cell, value := range known {
			if value != -1 {
				continue
			}
			known[cell] = 1
			filled := impl.LineWays(clue, known)
			known[cell] = 0
			empty := impl.LineWays(clue, known)
			known[cell] = -1
			if filled < 0 || empty < 0 || filled+empty != ways {
				t.Fatalf("%v with %v known: %d ways, %d with cell %d filled and %d with it empty", clue, known, ways, filled, cell, empty)
			}
			if filled > 0 && empty > 0 {
				divided++
			}
		}
	})
	if divided < 10000 {
		t.Errorf("only %d cells with ways of both kinds", divided)
	}
}

func TestP56SomeLines(t *testing.T) {
	for _, c := range []struct {
		clue, known         []int
		cell                int
		ways, filled, empty int
	}{
		{[]int{2, 1}, nothingKnown(5), 0, 3, 2, 1},
		{[]int{2, 1}, nothingKnown(5), 1, 3, 3, 0},
		{[]int{2, 1}, []int{0, -1, -1, -1, -1}, 4, 1, 1, 0},
		{nil, nothingKnown(3), 2, 1, 0, 1},
		{[]int{3}, nothingKnown(3), 1, 1, 1, 0},
		{[]int{1}, nothingKnown(8), 7, 8, 1, 7},
		{[]int{1, 1}, nothingKnown(8), 3, 21, 5, 16},
		{[]int{2}, []int{-1, 1, -1, -1}, 2, 2, 1, 1},
		{[]int{2}, []int{-1, 1, -1, 1}, 2, 0, 0, 0},
		{[]int{4}, []int{-1, 0, -1, -1, -1}, 0, 0, 0, 0},
	} {
		with := func(value int) []int {
			known := slices.Clone(c.known)
			known[c.cell] = value
			return known
		}
		ways, filled, empty := impl.LineWays(c.clue, c.known), impl.LineWays(c.clue, with(1)), impl.LineWays(c.clue, with(0))
		if ways != c.ways || filled != c.filled || empty != c.empty {
			t.Errorf("%v with %v known: %d ways, %d with cell %d filled and %d with it empty", c.clue, c.known, ways, filled, c.cell, empty)
		}
	}
}

func TestP56InvalidArguments(t *testing.T) {
	for _, c := range invalidClueAndKnown() {
		if ways := impl.LineWays(c.clue, c.known); ways != -1 {
			t.Errorf("%v with %v known has %d lines", c.clue, c.known, ways)
		}
	}
}

// checkNoWay fails if a line of which everything is known has another clue. There are no ways with a clue that is not valid, either, but the number is -1 then.
func checkNoWay(t *testing.T, clue []int, line []int) {
	t.Helper()
	want := 0
	if !impl.ClueValid(clue, len(line)) {
		want = -1
	}
	if ways := impl.LineWays(clue, line); ways != want {
		t.Fatalf("%v is %d lines with the clue %v, not %d", line, ways, clue, want)
	}
}

func TestP121EveryLine(t *testing.T) {
	eachLine(func(line []int) {
		if len(line) == 0 {
			return
		}
		clue := impl.ClueOf(filledCells(line))
		if ways := impl.LineWays(clue, line); ways != 1 {
			t.Fatalf("%v is %d lines with its clue %v", line, ways, clue)
		}
		if forced, ok := impl.LineForced(clue, line); !ok || !slices.Equal(forced, line) {
			t.Fatalf("%v becomes %v with its clue %v", line, forced, clue)
		}
		for place := range len(clue) + 1 {
			for number := 1; number <= 8; number++ {
				checkNoWay(t, slices.Insert(slices.Clone(clue), place, number), line)
			}
		}
		for place := range clue {
			larger := slices.Clone(clue)
			larger[place]++
			checkNoWay(t, larger, line)
			checkNoWay(t, slices.Delete(slices.Clone(clue), place, place+1), line)
		}
		for cell := range line {
			changed := slices.Clone(line)
			changed[cell] = 1 - line[cell]
			checkNoWay(t, clue, changed)
		}
	})
}

func TestP121OtherClues(t *testing.T) {
	eachLine(func(line []int) {
		if len(line) == 0 {
			return
		}
		met := 0
		for _, c := range cluesOf(len(line)) {
			if slices.Equal(c.clue, clueFrom(line)) {
				met++
				continue
			}
			if forced, ok := impl.LineForced(c.clue, line); ok || !slices.Equal(forced, line) || impl.LineWays(c.clue, line) != 0 {
				t.Fatalf("%v becomes %v with the clue %v", line, forced, c.clue)
			}
		}
		if met != 1 {
			t.Fatalf("%v has %d clues", line, met)
		}
	})
}

func TestP121InvalidLines(t *testing.T) {
	for _, cells := range []int{0, 9, 10, 16, 264} {
		for _, line := range [][]int{make([]int, cells), slices.Repeat([]int{1}, cells)} {
			if ways := impl.LineWays(impl.ClueOf(filledCells(line)), line); ways != -1 {
				t.Errorf("%v is %d lines", line, ways)
			}
			if ways := impl.LineWays([]int{cells}, line); ways != -1 {
				t.Errorf("%v is %d lines with all cells filled", line, ways)
			}
		}
	}
}

func TestP122EveryLine(t *testing.T) {
	again, refused := 0, 0
	eachClueAndKnown(func(clue []int, known []int, lines [][]int) {
		forced, ok := impl.LineForced(clue, known)
		second, still := impl.LineForced(clue, forced)
		if still != ok || len(forced) != len(known) || !slices.Equal(second, forced) {
			t.Fatalf("%v with %v known forces %v, %v, and then %v, %v", clue, known, forced, ok, second, still)
		}
		if ok {
			again++
		} else {
			refused++
		}
	})
	if min(again, refused) < 10000 {
		t.Errorf("too few lines that stay (%d), or that there are not (%d)", again, refused)
	}
}

// What is forced can also be told one cell after the other.
func TestP122CellByCell(t *testing.T) {
	eachClueAndKnown(func(clue []int, known []int, lines [][]int) {
		if len(lines) == 0 || len(known) > 6 {
			return
		}
		forced, _ := impl.LineForced(clue, known)
		told := slices.Clone(known)
		for cell, value := range forced {
			told[cell] = value
			if second, ok := impl.LineForced(clue, told); !ok || !slices.Equal(second, forced) {
				t.Fatalf("%v with %v known forces %v, but with %v %v", clue, known, forced, told, second)
			}
		}
	})
}

func TestP122InvalidArguments(t *testing.T) {
	for _, c := range invalidClueAndKnown() {
		forced, _ := impl.LineForced(c.clue, c.known)
		if second, ok := impl.LineForced(c.clue, forced); ok || len(second) != 0 {
			t.Errorf("%v with %v known forces %v, and then %v", c.clue, c.known, forced, second)
		}
	}
}

func TestPictureLineResultsAreNew(t *testing.T) {
	visited := 0
	eachClueAndKnown(func(clue []int, known []int, lines [][]int) {
		if visited++; visited%5 == 0 || len(known) < 5 {
			checkLineResults(t, clue, known)
		}
	})
	for _, c := range invalidClueAndKnown() {
		checkLineResults(t, c.clue, c.known)
	}
	eachLine(func(line []int) { checkClueFresh(t, filledCells(line)) })
	checkClueFresh(t, make([]bool, 9))
}

// checkLineResults fails if a function of the chapter writes to a clue or to what is known, or shares memory with them.
func checkLineResults(t *testing.T, clue []int, known []int) {
	t.Helper()
	keptClue, keptKnown := withSpare(clue), withSpare(known)
	checkFresh(t, "LineForced", known, func(known []int) []int {
		forced, _ := impl.LineForced(keptClue, known)
		return forced
	})
	checkFresh(t, "LineForced", clue, func(clue []int) []int {
		forced, _ := impl.LineForced(clue, keptKnown)
		return forced
	})
	checkFresh(t, "LineWays", known, func(known []int) []int { return []int{impl.LineWays(keptClue, known)} })
	checkFresh(t, "KnownValid", known, func(known []int) []int { return truth(impl.KnownValid(known)) })
	checkFresh(t, "ClueValid", clue, func(clue []int) []int { return truth(impl.ClueValid(clue, len(known))) })
	if !slices.Equal(keptClue, clue) || spareTouched(keptClue) || !slices.Equal(keptKnown, known) || spareTouched(keptKnown) {
		t.Fatalf("%v or %v was written to", clue, known)
	}
}

// checkClueFresh fails if ClueOf writes to its line, or if two of its results share memory.
func checkClueFresh(t *testing.T, line []bool) {
	t.Helper()
	for _, spare := range []bool{false, true} {
		kept := append(slices.Clone(line), spare, spare)
		first := impl.ClueOf(kept[:len(line)])
		want := slices.Clone(first)
		second := impl.ClueOf(kept[:len(line)])
		for k := range first[:cap(first)] {
			first[:cap(first)][k] = 99
		}
		if !slices.Equal(kept, append(slices.Clone(line), spare, spare)) {
			t.Fatalf("ClueOf wrote to its line %v", line)
		}
		if !slices.Equal(second, want) || !slices.Equal(impl.ClueOf(kept[:len(line)]), want) {
			t.Fatalf("two results of ClueOf share memory, for the line %v", line)
		}
	}
}
