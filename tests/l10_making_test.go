package tests

import (
	"math"
	"slices"
	"testing"

	"loop.example/gridpuzzles/impl"
)

// puzzleToMake is a puzzle with the solved grids for which its rules hold. What is given picks its solutions from these.
type puzzleToMake struct {
	impl.Puzzle
	held [][]int
}

func toMake(p impl.Puzzle, solved [][]int) puzzleToMake {
	free := impl.Puzzle{Size: p.Size, Given: make([]int, len(p.Given)), Rules: p.Rules}
	return puzzleToMake{p, solutionsOf(free, solved)}
}

// only returns the only solution if this were given instead, and whether there is exactly one.
func (p puzzleToMake) only(given []int) ([]int, bool) {
	var found [][]int
	for _, grid := range p.held {
		if agrees(grid, given) {
			found = append(found, grid)
		}
	}
	if len(found) != 1 {
		return nil, false
	}
	return found[0], true
}

// needless tells whether something is given in some cells, and there is exactly one solution with and without all of it.
func (p puzzleToMake) needless(given []int, cells ...int) bool {
	_, with := p.only(given)
	_, without := p.only(emptied(given, cells...))
	return with && without && !slices.Equal(given, emptied(given, cells...))
}

// isMinimal tells whether there is exactly one solution, and more of them without any single value.
func (p puzzleToMake) isMinimal(given []int) bool {
	for cell := range given {
		if p.needless(given, cell) {
			return false
		}
	}
	_, one := p.only(given)
	return one
}

// reduced takes away groups of cells, one after the other, wherever they are not needed then.
func (p puzzleToMake) reduced(groups [][]int) []int {
	given := p.Given
	for _, cells := range groups {
		if p.needless(given, cells...) {
			given = emptied(given, cells...)
		}
	}
	return given
}

// instead returns the puzzle with something else given.
func (p puzzleToMake) instead(given []int) puzzleToMake {
	return puzzleToMake{impl.Puzzle{Size: p.Size, Given: given, Rules: p.Rules}, p.held}
}

func emptied(grid []int, cells ...int) []int {
	left := slices.Clone(grid)
	for _, cell := range cells {
		left[cell] = 0
	}
	return left
}

// cellByCell lists the cells of a grid, each as a group of its own.
func cellByCell(size int) [][]int {
	var groups [][]int
	for cell := range size * size {
		groups = append(groups, []int{cell})
	}
	return groups
}

// oppositeCells writes the pairs of opposite cells out.
func oppositeCells(size int) [][]int {
	switch size {
	case 2:
		return [][]int{{0, 3}, {1, 2}}
	case 3:
		return [][]int{{0, 8}, {1, 7}, {2, 6}, {3, 5}, {4}}
	}
	return [][]int{{0, 15}, {1, 14}, {2, 13}, {3, 12}, {4, 11}, {5, 10}, {6, 9}, {7, 8}}
}

// inAnyOrder lists the cells of a grid in an order that looks irregular.
func inAnyOrder(size int, next func(limit uint32) int) [][]int {
	groups := cellByCell(size)
	for k := range groups {
		other := k + next(uint32(len(groups)-k))
		groups[k], groups[other] = groups[other], groups[k]
	}
	return groups
}

// eachPuzzleToMake visits the puzzles of eachPuzzle, eachSmallPuzzle and eachFittingGrid, and those of eachGivenPuzzle.
func eachPuzzleToMake(visit func(p puzzleToMake)) {
	lists := [5][][]int{2: solvedGrids(2), 3: solvedGrids(3), 4: solvedGrids(4)}
	eachPuzzle(func(p impl.Puzzle, solutions [][]int) { visit(toMake(p, lists[p.Size])) })
	eachSmallPuzzle(func(p impl.Puzzle) { visit(toMake(p, lists[2])) })
	eachFittingGrid(func(p puzzleWithWays) { visit(puzzleToMake{p.Puzzle, lists[p.Size]}) })
	eachGivenPuzzle(visit)
}

// eachGivenPuzzle visits a fixed selection of puzzles for a solved grid of which much is given; then what is left of each of them when the values that are not needed are taken away in some order, so that it is minimal; and then this with one value more.
func eachGivenPuzzle(visit func(p puzzleToMake)) {
	next := fixedNumbers()
	for size := 2; size <= 4; size++ {
		solved := solvedGrids(size)
		for turn := range 210 {
			grid := solved[next(uint32(len(solved)))]
			made := puzzleFor(grid, size, turn%21, next)
			made.Given = thinned(grid, 6+turn%11, next)
			p := toMake(made, solved)
			visit(p)
			if _, one := p.only(p.Given); !one {
				continue
			}
			least := p.reduced(inAnyOrder(size, next))
			visit(p.instead(least))
			more, cell := slices.Clone(least), next(uint32(size*size))
			more[cell] = grid[cell]
			visit(p.instead(more))
		}
	}
}

// eachFullPuzzle visits every solved grid as what is given, without rules and with up to 20 that hold.
func eachFullPuzzle(visit func(p puzzleToMake)) {
	next := fixedNumbers()
	for size := 2; size <= 4; size++ {
		solved := solvedGrids(size)
		for number, grid := range solved {
			visit(puzzleToMake{impl.Puzzle{Size: size, Given: grid}, solved})
			var rules []impl.Rule
			for range 1 + number%20 {
				rules = append(rules, ruleFor(grid, size, next))
			}
			visit(toMake(impl.Puzzle{Size: size, Given: grid, Rules: rules}, solved))
		}
	}
}

func samePuzzle(p impl.Puzzle, other impl.Puzzle) bool {
	return p.Size == other.Size && slices.Equal(p.Given, other.Given) && sameRules(p.Rules, other.Rules)
}

func sameRules(rules []impl.Rule, others []impl.Rule) bool {
	return slices.EqualFunc(rules, others, func(a impl.Rule, b impl.Rule) bool {
		return a.Kind == b.Kind && slices.Equal(a.Cells, b.Cells) && a.Value == b.Value
	})
}

// puzzlesToRefuse lists puzzles of which nothing can be made: invalid ones, and some with no or several solutions. In some there is exactly one solution without one of the given values, or without the rule.
func puzzlesToRefuse() []impl.Puzzle {
	rule := func(kind int, cells []int, value int) []impl.Rule {
		return []impl.Rule{{Kind: kind, Cells: cells, Value: value}}
	}
	return append(invalidPuzzles(), []impl.Puzzle{
		{Size: 2, Given: []int{0, 0, 0, 0}},
		{Size: 2, Given: []int{1, 0, 0, 2}},
		{Size: 2, Given: []int{1, 1, 0, 0}},
		{Size: 2, Given: []int{1, 2, 2, 2}},
		{Size: 2, Given: []int{1, 0, 0, 0}, Rules: rule(impl.RuleLess, []int{1, 0}, 0)},
		{Size: 2, Given: []int{0, 0, 0, 0}, Rules: rule(impl.RuleApart, []int{0, 1}, 1)},
		{Size: 3, Given: make([]int, 9)},
		{Size: 3, Given: []int{1, 2, 3, 0, 0, 0, 0, 0, 0}},
		{Size: 3, Given: []int{1, 2, 0, 0, 0, 3, 0, 0, 0}},
		{Size: 3, Given: []int{1, 0, 0, 0, 0, 0, 0, 0, 0}, Rules: rule(impl.RuleLess, []int{1, 2}, 0)},
		{Size: 3, Given: impl.SquareOf(3), Rules: rule(impl.RuleLess, []int{1, 0}, 0)},
		{Size: 4, Given: make([]int, 16)},
		{Size: 4, Given: impl.SquareOf(4), Rules: rule(impl.RuleSum, []int{0}, 256)},
	}...)
}

// checkMade fails if a puzzle is not made of another one as it must be: with less given, the same rules, and the same only solution. Of a puzzle without an only solution nothing must be made.
func checkMade(t *testing.T, name string, p puzzleToMake, made impl.Puzzle, ok bool) {
	t.Helper()
	solution, one := p.only(p.Given)
	if ok != one {
		t.Fatalf("%s of %v: %v", name, p.Puzzle, ok)
	}
	if !one {
		checkNothing(t, name, p.Puzzle, made, ok)
		return
	}
	if made.Size != p.Size || len(made.Given) != len(p.Given) || !sameRules(made.Rules, p.Rules) || !agrees(p.Given, made.Given) {
		t.Fatalf("%s makes %v of %v", name, made, p.Puzzle)
	}
	first, _ := impl.SolveFirst(made)
	if left, still := p.only(made.Given); !still || !slices.Equal(left, solution) || impl.CountSolutions(made, 600) != 1 || !slices.Equal(first, solution) {
		t.Fatalf("%s makes %v of %v, with other solutions", name, made, p.Puzzle)
	}
}

func checkNothing(t *testing.T, name string, p impl.Puzzle, made impl.Puzzle, ok bool) {
	t.Helper()
	if ok || !samePuzzle(made, impl.Puzzle{}) {
		t.Fatalf("%s makes %v of %v: %v", name, made, p, ok)
	}
}

func checkAllRefused(t *testing.T, name string, maker func(p impl.Puzzle) (impl.Puzzle, bool)) {
	t.Helper()
	for _, p := range puzzlesToRefuse() {
		made, ok := maker(p)
		checkNothing(t, name, p, made, ok)
	}
}

func TestP7EveryPuzzle(t *testing.T) {
	refused, fewer := 0, [5]int{}
	check := func(p puzzleToMake) {
		made, ok := impl.MakeMinimal(p.Puzzle)
		checkMade(t, "MakeMinimal", p, made, ok)
		if !ok {
			refused++
			return
		}
		if want := p.reduced(cellByCell(p.Size)); !slices.Equal(made.Given, want) {
			t.Fatalf("MakeMinimal makes %v of %v, not %v", made, p.Puzzle, want)
		}
		if !p.isMinimal(made.Given) || !impl.IsMinimal(made) {
			t.Fatalf("MakeMinimal makes %v of %v, which is not minimal: %v", made, p.Puzzle, impl.IsMinimal(made))
		}
		if !slices.Equal(made.Given, p.Given) {
			fewer[p.Size]++
		}
	}
	eachPuzzleToMake(check)
	eachFullPuzzle(check)
	if refused < 1000 || slices.Min(fewer[2:]) < 100 {
		t.Errorf("too few puzzles of which nothing (%d) or another one is made (%v)", refused, fewer)
	}
}

// Both values of a puzzle can be redundant, but not both at once; so their order matters.
func TestP7SomePuzzles(t *testing.T) {
	less := func(cells ...int) impl.Rule { return impl.Rule{Kind: impl.RuleLess, Cells: cells} }
	for _, c := range []struct {
		p    impl.Puzzle
		want []int
	}{
		{impl.Puzzle{Size: 2, Given: []int{1, 2, 2, 1}}, []int{0, 0, 0, 1}},
		{impl.Puzzle{Size: 2, Given: []int{1, 2, 0, 0}}, []int{0, 2, 0, 0}},
		{impl.Puzzle{Size: 2, Given: []int{0, 2, 2, 0}}, []int{0, 0, 2, 0}},
		{impl.Puzzle{Size: 2, Given: []int{2, 1, 1, 2}, Rules: []impl.Rule{less(2, 3)}}, []int{0, 0, 0, 0}},
		{impl.Puzzle{Size: 2, Given: []int{2, 1, 1, 2}, Rules: []impl.Rule{{Kind: impl.RuleApart, Cells: []int{1, 3}, Value: 1}}}, []int{0, 0, 0, 2}},
		{impl.Puzzle{Size: 3, Given: []int{1, 2, 3, 2, 3, 1, 3, 1, 2}}, []int{0, 0, 0, 0, 0, 1, 0, 1, 2}},
		{impl.Puzzle{Size: 3, Given: []int{3, 1, 2, 2, 3, 1, 1, 2, 3}}, []int{0, 0, 0, 0, 0, 1, 0, 2, 0}},
		{impl.Puzzle{Size: 3, Given: []int{1, 2, 0, 0, 0, 1, 0, 0, 0}}, []int{0, 2, 0, 0, 0, 1, 0, 0, 0}},
		{impl.Puzzle{Size: 3, Given: []int{0, 2, 0, 2, 0, 1, 0, 1, 0}}, []int{0, 0, 0, 2, 0, 0, 0, 1, 0}},
		{impl.Puzzle{Size: 3, Given: []int{1, 2, 3, 2, 3, 1, 3, 1, 2}, Rules: []impl.Rule{less(0, 1)}}, []int{0, 0, 0, 0, 0, 1, 0, 0, 2}},
		{impl.Puzzle{Size: 3, Given: []int{1, 2, 3, 2, 3, 1, 3, 1, 2}, Rules: []impl.Rule{less(0, 1), less(1, 2)}}, []int{0, 0, 0, 0, 0, 0, 0, 0, 2}},
		{impl.Puzzle{Size: 4, Given: []int{1, 2, 3, 4, 2, 3, 4, 1, 3, 4, 1, 2, 4, 1, 2, 3}}, []int{0, 0, 0, 0, 0, 0, 0, 1, 0, 0, 1, 2, 0, 1, 2, 3}},
		{impl.Puzzle{Size: 4, Given: []int{1, 2, 3, 4, 2, 1, 4, 3, 3, 4, 1, 2, 4, 3, 2, 1}}, []int{0, 0, 0, 0, 0, 1, 0, 3, 0, 0, 1, 2, 0, 3, 2, 1}},
	} {
		made, ok := impl.MakeMinimal(c.p)
		if want := (impl.Puzzle{Size: c.p.Size, Given: c.want, Rules: c.p.Rules}); !ok || !samePuzzle(made, want) {
			t.Errorf("MakeMinimal makes %v of %v: %v", made, c.p, ok)
		}
	}
}

func TestP7InvalidPuzzles(t *testing.T) {
	checkAllRefused(t, "MakeMinimal", impl.MakeMinimal)
}

func TestP46EveryCell(t *testing.T) {
	var redundant, needed, empty int
	check := func(p puzzleToMake) {
		for cell, value := range p.Given {
			want := p.needless(p.Given, cell)
			if impl.IsRedundant(p.Puzzle, cell) != want {
				t.Fatalf("cell %d of %v is redundant: %v", cell, p.Puzzle, !want)
			}
			switch {
			case want:
				redundant++
			case value != 0:
				needed++
			default:
				empty++
			}
		}
	}
	eachPuzzleToMake(check)
	eachFullPuzzle(check)
	if min(redundant, needed, empty) < 1000 {
		t.Errorf("too few cells that are redundant (%d), needed (%d) or empty (%d)", redundant, needed, empty)
	}
}

func TestP46SameSolutionWithout(t *testing.T) {
	eachPuzzleToMake(func(p puzzleToMake) {
		for cell, value := range p.Given {
			if !impl.IsRedundant(p.Puzzle, cell) {
				continue
			}
			first, _ := impl.SolveFirst(p.Puzzle)
			without := impl.Puzzle{Size: p.Size, Given: emptied(p.Given, cell), Rules: p.Rules}
			left, ok := impl.SolveFirst(without)
			if value == 0 || impl.CountSolutions(p.Puzzle, 600) != 1 || impl.CountSolutions(without, 600) != 1 || !ok || !slices.Equal(left, first) {
				t.Fatalf("cell %d of %v is redundant, but without it the first solution is %v", cell, p.Puzzle, left)
			}
		}
	})
}

func TestP46SomeCells(t *testing.T) {
	less := []impl.Rule{{Kind: impl.RuleLess, Cells: []int{0, 1}}}
	for _, c := range []struct {
		p    impl.Puzzle
		want []bool
	}{
		{impl.Puzzle{Size: 2, Given: []int{1, 2, 2, 1}}, []bool{true, true, true, true}},
		{impl.Puzzle{Size: 2, Given: []int{1, 0, 2, 0}}, []bool{true, false, true, false}},
		{impl.Puzzle{Size: 2, Given: []int{0, 0, 2, 0}}, []bool{false, false, false, false}},
		// The rule is enough.
		{impl.Puzzle{Size: 2, Given: []int{0, 0, 2, 0}, Rules: less}, []bool{false, false, true, false}},
		{impl.Puzzle{Size: 2, Given: []int{0, 0, 0, 0}, Rules: less}, []bool{false, false, false, false}},
		// Without cell 0 or 3 there is exactly one solution, but with both there is none.
		{impl.Puzzle{Size: 2, Given: []int{1, 0, 0, 2}}, []bool{false, false, false, false}},
		{impl.Puzzle{Size: 2, Given: []int{0, 0, 1, 0}, Rules: less}, []bool{false, false, false, false}},
		{impl.Puzzle{Size: 2, Given: []int{0, 0, 0, 0}}, []bool{false, false, false, false}},
		{impl.Puzzle{Size: 3, Given: []int{1, 2, 0, 0, 0, 1, 0, 0, 0}}, []bool{true, false, false, false, false, false, false, false, false}},
		{impl.Puzzle{Size: 3, Given: []int{1, 0, 0, 0, 2, 0, 0, 0, 0}}, make([]bool, 9)},
		// Two solutions, with and without any one of these.
		{impl.Puzzle{Size: 3, Given: []int{1, 2, 3, 0, 0, 0, 0, 0, 0}}, make([]bool, 9)},
	} {
		for cell, want := range c.want {
			if impl.IsRedundant(c.p, cell) != want {
				t.Errorf("cell %d of %v is redundant: %v", cell, c.p, !want)
			}
		}
	}
}

func TestP46InvalidArguments(t *testing.T) {
	for _, p := range puzzlesToRefuse() {
		for cell := -1; cell <= 16; cell++ {
			if impl.IsRedundant(p, cell) {
				t.Fatalf("cell %d of %v is redundant", cell, p)
			}
		}
	}
	eachFullPuzzle(func(p puzzleToMake) {
		cells := p.Size * p.Size
		for _, cell := range []int{-1, -2, -cells, cells, cells + 1, 2 * cells, 1 << 32, 1<<32 + 1, -1 << 32, math.MinInt, math.MaxInt} {
			if impl.IsRedundant(p.Puzzle, cell) {
				t.Fatalf("cell %d of %v is redundant", cell, p.Puzzle)
			}
		}
	})
}

func TestP47EveryPuzzle(t *testing.T) {
	var minimal, withMore, withoutAny [5]int
	check := func(p puzzleToMake) {
		want := p.isMinimal(p.Given)
		if impl.IsMinimal(p.Puzzle) != want {
			t.Fatalf("%v is minimal: %v", p.Puzzle, !want)
		}
		redundant := false
		for cell := range p.Given {
			redundant = redundant || impl.IsRedundant(p.Puzzle, cell)
		}
		if want != (impl.CountSolutions(p.Puzzle, 600) == 1 && !redundant) {
			t.Fatalf("%v is minimal: %v; a cell of it is redundant: %v", p.Puzzle, want, redundant)
		}
		switch _, one := p.only(p.Given); {
		case want:
			minimal[p.Size]++
		case one:
			withMore[p.Size]++
		default:
			withoutAny[p.Size]++
		}
	}
	eachPuzzleToMake(check)
	eachFullPuzzle(check)
	if slices.Min(minimal[2:]) < 100 || slices.Min(withMore[2:]) < 100 || slices.Min(withoutAny[2:]) < 100 {
		t.Errorf("too few puzzles that are minimal (%v), have more (%v), or have no only solution (%v)", minimal, withMore, withoutAny)
	}
}

func TestP47SomePuzzles(t *testing.T) {
	less := []impl.Rule{{Kind: impl.RuleLess, Cells: []int{0, 1}}}
	for _, c := range []struct {
		p    impl.Puzzle
		want bool
	}{
		{impl.Puzzle{Size: 2, Given: []int{1, 0, 0, 0}}, true},
		{impl.Puzzle{Size: 2, Given: []int{0, 0, 0, 2}}, true},
		{impl.Puzzle{Size: 2, Given: []int{1, 0, 0, 1}}, false},
		{impl.Puzzle{Size: 2, Given: []int{1, 2, 2, 1}}, false},
		// Nothing is given, so nothing is redundant.
		{impl.Puzzle{Size: 2, Given: []int{0, 0, 0, 0}, Rules: less}, true},
		{impl.Puzzle{Size: 2, Given: []int{0, 0, 0, 0}}, false},
		{impl.Puzzle{Size: 2, Given: []int{1, 0, 0, 0}, Rules: less}, false},
		{impl.Puzzle{Size: 2, Given: []int{1, 1, 0, 0}}, false},
		// A rule that is not needed is nothing that is given.
		{impl.Puzzle{Size: 2, Given: []int{1, 0, 0, 0}, Rules: []impl.Rule{{Kind: impl.RuleApart, Cells: []int{0, 1}, Value: 1}}}, true},
		{impl.Puzzle{Size: 3, Given: []int{1, 0, 0, 0, 2, 0, 0, 0, 0}}, true},
		{impl.Puzzle{Size: 3, Given: []int{0, 0, 0, 0, 0, 1, 0, 1, 2}}, true},
		// The last value alone is redundant, or the first one alone.
		{impl.Puzzle{Size: 3, Given: []int{1, 0, 0, 0, 2, 0, 0, 0, 3}}, false},
		{impl.Puzzle{Size: 3, Given: []int{1, 2, 0, 0, 0, 1, 0, 0, 0}}, false},
		{impl.Puzzle{Size: 3, Given: []int{0, 2, 0, 0, 0, 1, 0, 0, 2}}, false},
		// Nothing can be left out, but there are two solutions.
		{impl.Puzzle{Size: 3, Given: []int{1, 2, 0, 0, 0, 0, 0, 0, 0}}, false},
		{impl.Puzzle{Size: 4, Given: []int{0, 0, 0, 0, 0, 0, 0, 1, 0, 0, 1, 2, 0, 1, 2, 3}}, true},
		{impl.Puzzle{Size: 4, Given: []int{1, 0, 0, 0, 0, 0, 0, 1, 0, 0, 1, 2, 0, 1, 2, 3}}, false},
	} {
		if impl.IsMinimal(c.p) != c.want {
			t.Errorf("%v is minimal: %v", c.p, !c.want)
		}
	}
}

func TestP47InvalidPuzzles(t *testing.T) {
	for _, p := range puzzlesToRefuse() {
		if impl.IsMinimal(p) {
			t.Fatalf("%v is minimal", p)
		}
	}
}

func TestP48EveryPuzzle(t *testing.T) {
	var fewer, halves [5]int
	check := func(p puzzleToMake) {
		made, ok := impl.MakeEven(p.Puzzle)
		checkMade(t, "MakeEven", p, made, ok)
		if !ok {
			return
		}
		if want := p.reduced(oppositeCells(p.Size)); !slices.Equal(made.Given, want) {
			t.Fatalf("MakeEven makes %v of %v, not %v", made, p.Puzzle, want)
		}
		for cell, value := range made.Given {
			opposite := len(made.Given) - 1 - cell
			if value != 0 && made.Given[opposite] != p.Given[opposite] {
				t.Fatalf("MakeEven makes %v of %v: cell %d is left alone", made, p.Puzzle, cell)
			}
			if value == 0 && p.Given[cell] != 0 {
				fewer[p.Size]++
			}
			if value == 0 && p.Given[cell] != 0 && p.Given[opposite] == 0 {
				halves[p.Size]++
			}
		}
	}
	eachPuzzleToMake(check)
	eachFullPuzzle(check)
	if slices.Min(fewer[2:]) < 100 || slices.Min(halves[2:]) < 20 {
		t.Errorf("too few values are taken away (%v), or from pairs of which only one is given (%v)", fewer, halves)
	}
}

func TestP48FullGrids(t *testing.T) {
	eachFullPuzzle(func(p puzzleToMake) {
		made, ok := impl.MakeEven(p.Puzzle)
		checkMade(t, "MakeEven", p, made, ok)
		for cell, value := range made.Given {
			if (value == 0) != (made.Given[len(made.Given)-1-cell] == 0) {
				t.Fatalf("MakeEven makes %v of %v: only one of two opposite cells is left", made, p.Puzzle)
			}
		}
	})
}

func TestP48SomePuzzles(t *testing.T) {
	rule := func(kind int, cells []int, value int) []impl.Rule {
		return []impl.Rule{{Kind: kind, Cells: cells, Value: value}}
	}
	for _, c := range []struct {
		p    impl.Puzzle
		want []int
	}{
		{impl.Puzzle{Size: 2, Given: []int{1, 2, 2, 1}}, []int{0, 2, 2, 0}},
		{impl.Puzzle{Size: 2, Given: []int{1, 2, 2, 1}, Rules: rule(impl.RuleLess, []int{0, 1}, 0)}, []int{0, 0, 0, 0}},
		// Of a pair only one cell is given.
		{impl.Puzzle{Size: 2, Given: []int{1, 2, 0, 0}}, []int{0, 2, 0, 0}},
		{impl.Puzzle{Size: 2, Given: []int{0, 2, 0, 1}}, []int{0, 2, 0, 0}},
		{impl.Puzzle{Size: 2, Given: []int{0, 0, 2, 1}}, []int{0, 0, 2, 0}},
		{impl.Puzzle{Size: 3, Given: []int{1, 2, 0, 0, 0, 1, 0, 0, 0}}, []int{0, 2, 0, 0, 0, 1, 0, 0, 0}},
		// Of a pair nothing is given.
		{impl.Puzzle{Size: 2, Given: []int{0, 2, 2, 0}}, []int{0, 2, 2, 0}},
		{impl.Puzzle{Size: 2, Given: []int{1, 0, 0, 1}}, []int{1, 0, 0, 1}},
		{impl.Puzzle{Size: 2, Given: []int{0, 0, 0, 0}, Rules: rule(impl.RuleLess, []int{0, 1}, 0)}, []int{0, 0, 0, 0}},
		// Each one of two cells is redundant, but not both.
		{impl.Puzzle{Size: 3, Given: []int{0, 2, 0, 2, 0, 1, 0, 1, 0}}, []int{0, 2, 0, 2, 0, 1, 0, 1, 0}},
		{impl.Puzzle{Size: 3, Given: []int{1, 2, 3, 2, 3, 1, 3, 1, 2}}, []int{0, 0, 3, 2, 0, 1, 3, 0, 0}},
		// The cell in the middle is opposite to itself.
		{impl.Puzzle{Size: 3, Given: []int{3, 1, 2, 2, 3, 1, 1, 2, 3}}, []int{0, 0, 2, 0, 0, 0, 1, 0, 0}},
		{impl.Puzzle{Size: 3, Given: []int{1, 0, 3, 0, 3, 0, 3, 0, 2}}, []int{1, 0, 0, 0, 0, 0, 0, 0, 2}},
		{impl.Puzzle{Size: 3, Given: []int{1, 2, 3, 2, 3, 1, 3, 1, 2}, Rules: rule(impl.RuleLess, []int{0, 1}, 0)}, []int{0, 0, 0, 0, 3, 0, 0, 0, 0}},
		{impl.Puzzle{Size: 3, Given: []int{1, 2, 3, 2, 3, 1, 3, 1, 2}, Rules: rule(impl.RuleProduct, []int{4}, 3)}, []int{0, 0, 3, 2, 0, 1, 3, 0, 0}},
		{impl.Puzzle{Size: 4, Given: []int{1, 2, 3, 4, 2, 3, 4, 1, 3, 4, 1, 2, 4, 1, 2, 3}}, []int{0, 0, 0, 4, 0, 0, 4, 1, 3, 4, 0, 0, 4, 0, 0, 0}},
		{impl.Puzzle{Size: 4, Given: []int{1, 2, 3, 4, 2, 1, 4, 3, 3, 4, 1, 2, 4, 3, 2, 1}}, []int{0, 0, 3, 4, 0, 1, 0, 3, 3, 0, 1, 0, 4, 3, 0, 0}},
	} {
		made, ok := impl.MakeEven(c.p)
		if want := (impl.Puzzle{Size: c.p.Size, Given: c.want, Rules: c.p.Rules}); !ok || !samePuzzle(made, want) {
			t.Errorf("MakeEven makes %v of %v: %v", made, c.p, ok)
		}
	}
}

func TestP48InvalidPuzzles(t *testing.T) {
	checkAllRefused(t, "MakeEven", impl.MakeEven)
}

func TestP49EverySolvedGrid(t *testing.T) {
	eachFullPuzzle(func(p puzzleToMake) {
		made, ok := impl.PuzzleOf(p.Given, p.Size, p.Rules)
		if !ok || !samePuzzle(made, p.Puzzle) {
			t.Fatalf("%v of %v with %v: %v", made, p.Given, p.Rules, ok)
		}
		first, solved := impl.SolveFirst(made)
		if !solved || !slices.Equal(first, p.Given) || impl.CountSolutions(made, 600) != 1 || impl.GradePuzzle(made) != 1 {
			t.Fatalf("%v has the first solution %v and the grade %d", made, first, impl.GradePuzzle(made))
		}
	})
}

// The rule that does not hold stands at every place among others that do.
func TestP49RulesThatDoNotHold(t *testing.T) {
	next := fixedNumbers()
	held, others := 0, 0
	eachFullPuzzle(func(p puzzleToMake) {
		for k := range len(p.Rules) + 1 {
			rules := slices.Insert(slices.Clone(p.Rules), k, anyRule(p.Size, next))
			want := len(rules) <= 20 && heldBy(rules[k], valuesAt(rules[k], p.Given))
			made, ok := impl.PuzzleOf(p.Given, p.Size, rules)
			if ok != want {
				t.Fatalf("%v of %v with %v: %v", made, p.Given, rules, ok)
			}
			if want {
				held++
				continue
			}
			others++
			checkNothing(t, "PuzzleOf", impl.Puzzle{Size: p.Size, Given: p.Given, Rules: rules}, made, ok)
		}
	})
	if held < 1000 || others < 1000 {
		t.Errorf("too few lists of rules that hold (%d) or do not (%d)", held, others)
	}
}

func TestP49EveryGrid(t *testing.T) {
	check := func(grid []int, size int) {
		want := !slices.Contains(grid, 0) && repeatsNothing(grid, size)
		made, ok := impl.PuzzleOf(grid, size, nil)
		if ok != want || ok && !samePuzzle(made, impl.Puzzle{Size: size, Given: grid}) {
			t.Fatalf("%v of %v: %v", made, grid, ok)
		}
		if !want {
			checkNothing(t, "PuzzleOf", impl.Puzzle{Size: size, Given: grid}, made, ok)
		}
	}
	eachGrid(check)
	eachNearlySolved(check)
}

func TestP49SomePuzzles(t *testing.T) {
	grid := []int{1, 2, 2, 1}
	less := impl.Rule{Kind: impl.RuleLess, Cells: []int{0, 1}}
	for _, c := range []struct {
		grid  []int
		size  int
		rules []impl.Rule
		want  bool
	}{
		{grid, 2, nil, true},
		{grid, 2, []impl.Rule{}, true},
		{grid, 2, []impl.Rule{less}, true},
		{grid, 2, []impl.Rule{less, less}, true},
		{grid, 2, slices.Repeat([]impl.Rule{less}, 20), true},
		{grid, 2, slices.Repeat([]impl.Rule{less}, 21), false},
		{grid, 2, []impl.Rule{{Kind: impl.RuleLess, Cells: []int{1, 0}}}, false},
		{grid, 2, []impl.Rule{less, {Kind: impl.RuleDifferent, Cells: []int{0, 3}}}, false},
		{grid, 2, []impl.Rule{{Kind: impl.RuleApart, Cells: []int{0, 3}}, {Kind: impl.RuleSum, Cells: []int{1, 0, 3, 2}, Value: 6}, {Kind: impl.RuleProduct, Cells: []int{1, 2}, Value: 4}}, true},
		// The rules may hold, but the grid is not solved.
		{[]int{1, 2, 0, 0}, 2, []impl.Rule{less}, false},
		{[]int{1, 2, 1, 2}, 2, []impl.Rule{less}, false},
		{[]int{1, 2, 2, 0}, 2, nil, false},
		{[]int{0, 0, 0, 0}, 2, nil, false},
		// Solved for another size.
		{grid, 3, nil, false},
		{grid, 4, nil, false},
		{[]int{1, 2, 3, 2, 3, 1, 3, 1, 2}, 2, nil, false},
		{[]int{1, 2, 3, 2, 3, 1, 3, 1, 2}, 3, []impl.Rule{less}, true},
	} {
		made, ok := impl.PuzzleOf(c.grid, c.size, c.rules)
		p := impl.Puzzle{Size: c.size, Given: c.grid, Rules: c.rules}
		if ok != c.want || ok && !samePuzzle(made, p) {
			t.Errorf("%v of %v: %v", made, p, ok)
		}
		if !ok {
			checkNothing(t, "PuzzleOf", p, made, ok)
		}
	}
}

func TestP49InvalidArguments(t *testing.T) {
	for _, p := range invalidPuzzles() {
		made, ok := impl.PuzzleOf(p.Given, p.Size, p.Rules)
		checkNothing(t, "PuzzleOf", p, made, ok)
	}
	for _, r := range invalidRules() {
		for size := 2; size <= 4; size++ {
			// A rule that is invalid for its own size may be valid for this one.
			if validRule(r.rule, size) {
				continue
			}
			rules := []impl.Rule{r.rule}
			made, ok := impl.PuzzleOf(impl.SquareOf(size), size, rules)
			checkNothing(t, "PuzzleOf", impl.Puzzle{Size: size, Given: impl.SquareOf(size), Rules: rules}, made, ok)
		}
	}
	for size := 2; size <= 4; size++ {
		for _, wrong := range []int{-size, -1, 0, 1, 5, 6, size + 1<<32, math.MinInt, math.MaxInt} {
			made, ok := impl.PuzzleOf(impl.SquareOf(size), wrong, nil)
			checkNothing(t, "PuzzleOf", impl.Puzzle{Size: wrong, Given: impl.SquareOf(size)}, made, ok)
		}
	}
}

func TestP118MinimalPuzzlesStay(t *testing.T) {
	var minimal, byRulesAlone [5]int
	check := func(p puzzleToMake) {
		if !p.isMinimal(p.Given) {
			return
		}
		minimal[p.Size]++
		if !slices.ContainsFunc(p.Given, func(value int) bool { return value != 0 }) {
			byRulesAlone[p.Size]++
		}
		made, ok := impl.MakeMinimal(p.Puzzle)
		if !ok || !samePuzzle(made, p.Puzzle) {
			t.Fatalf("MakeMinimal makes %v of the minimal %v: %v", made, p.Puzzle, ok)
		}
	}
	eachPuzzleToMake(check)
	if slices.Min(minimal[2:]) < 100 || slices.Min(byRulesAlone[2:]) < 10 {
		t.Errorf("too few puzzles that are minimal (%v), or in which nothing is given (%v)", minimal, byRulesAlone)
	}
}

func TestP118MadeTwice(t *testing.T) {
	check := func(p puzzleToMake) {
		made, ok := impl.MakeMinimal(p.Puzzle)
		if !ok {
			return
		}
		if again, still := impl.MakeMinimal(made); !still || !samePuzzle(again, made) {
			t.Fatalf("of %v MakeMinimal makes %v, and then %v", p.Puzzle, made, again)
		}
	}
	eachPuzzleToMake(check)
	eachFullPuzzle(check)
}

func TestP118SomePuzzles(t *testing.T) {
	less := []impl.Rule{{Kind: impl.RuleLess, Cells: []int{0, 1}}}
	for _, p := range []impl.Puzzle{
		{Size: 2, Given: []int{1, 0, 0, 0}},
		{Size: 2, Given: []int{0, 0, 0, 2}},
		{Size: 2, Given: []int{0, 0, 0, 0}, Rules: less},
		{Size: 2, Given: []int{1, 0, 0, 0}, Rules: []impl.Rule{{Kind: impl.RuleApart, Cells: []int{0, 1}, Value: 1}}},
		{Size: 3, Given: []int{1, 0, 0, 0, 2, 0, 0, 0, 0}},
		{Size: 3, Given: []int{1, 0, 0, 0, 0, 0, 0, 0, 2}},
		{Size: 3, Given: []int{0, 2, 0, 0, 0, 1, 0, 0, 0}},
		{Size: 3, Given: []int{0, 0, 0, 0, 3, 0, 0, 0, 0}, Rules: less},
	} {
		if made, ok := impl.MakeMinimal(p); !ok || !samePuzzle(made, p) || !impl.IsMinimal(p) {
			t.Errorf("MakeMinimal makes %v of the minimal %v: %v", made, p, ok)
		}
	}
}

func TestP118InvalidPuzzles(t *testing.T) {
	checkAllRefused(t, "MakeMinimal twice", func(p impl.Puzzle) (impl.Puzzle, bool) {
		made, _ := impl.MakeMinimal(p)
		return impl.MakeMinimal(made)
	})
}

func TestP138EvenPuzzlesMadeMinimal(t *testing.T) {
	var fewer [5]int
	check := func(p puzzleToMake) {
		even, ok := impl.MakeEven(p.Puzzle)
		if !ok {
			return
		}
		made, still := impl.MakeMinimal(even)
		checkMade(t, "MakeMinimal", p.instead(even.Given), made, still)
		checkMade(t, "MakeMinimal after MakeEven", p, made, still)
		if want := p.instead(even.Given).reduced(cellByCell(p.Size)); !slices.Equal(made.Given, want) || !impl.IsMinimal(made) {
			t.Fatalf("of %v MakeEven makes %v, and then MakeMinimal %v", p.Puzzle, even, made)
		}
		if !slices.Equal(made.Given, even.Given) {
			fewer[p.Size]++
		}
	}
	eachPuzzleToMake(check)
	eachFullPuzzle(check)
	if fewer[2] < 2 || slices.Min(fewer[3:]) < 20 {
		t.Errorf("too few even puzzles are not minimal: %v", fewer)
	}
}

func TestP138SomePuzzles(t *testing.T) {
	for _, c := range []struct {
		p    impl.Puzzle
		want []int
	}{
		{impl.Puzzle{Size: 2, Given: []int{1, 2, 2, 1}}, []int{0, 0, 2, 0}},
		{impl.Puzzle{Size: 2, Given: []int{1, 2, 0, 0}}, []int{0, 2, 0, 0}},
		{impl.Puzzle{Size: 3, Given: []int{1, 0, 3, 0, 3, 0, 3, 0, 2}}, []int{1, 0, 0, 0, 0, 0, 0, 0, 2}},
		{impl.Puzzle{Size: 3, Given: []int{0, 2, 0, 2, 0, 1, 0, 1, 0}}, []int{0, 0, 0, 2, 0, 0, 0, 1, 0}},
	} {
		even, ok := impl.MakeEven(c.p)
		made, still := impl.MakeMinimal(even)
		if !ok || !still || !slices.Equal(made.Given, c.want) {
			t.Errorf("of %v MakeEven makes %v, and then MakeMinimal %v", c.p, even, made)
		}
	}
}

func TestP138InvalidPuzzles(t *testing.T) {
	checkAllRefused(t, "MakeMinimal after MakeEven", func(p impl.Puzzle) (impl.Puzzle, bool) {
		even, _ := impl.MakeEven(p)
		return impl.MakeMinimal(even)
	})
}

// checkOwnMemory fails if puzzles that were made share memory with a puzzle of puzzleWithSpare, with each other, or one list of them with another. It writes to all of their memory, also behind the ends of the lists.
func checkOwnMemory(t *testing.T, name string, kept impl.Puzzle, p impl.Puzzle, made ...impl.Puzzle) {
	t.Helper()
	var lists [][]int
	for _, puzzle := range made {
		lists = append(lists, puzzle.Given[:cap(puzzle.Given)])
		for _, rule := range puzzle.Rules {
			lists = append(lists, rule.Cells[:cap(rule.Cells)])
		}
	}
	if !listsApart(lists) {
		t.Fatalf("two lists of results of %s share memory, for %v", name, p)
	}
	for number, puzzle := range made {
		rules := puzzle.Rules[:cap(puzzle.Rules)]
		for k := range rules {
			rules[k].Kind = 1000 + number
		}
	}
	for number, puzzle := range made {
		if slices.ContainsFunc(puzzle.Rules, func(rule impl.Rule) bool { return rule.Kind != 1000+number }) {
			t.Fatalf("the rules of two results of %s share memory, for %v", name, p)
		}
	}
	checkUntouched(t, kept, p)
}

func TestMadePuzzlesAreNew(t *testing.T) {
	makers := []struct {
		name string
		make func(p impl.Puzzle) (impl.Puzzle, bool)
	}{
		{"MakeMinimal", impl.MakeMinimal},
		{"MakeEven", impl.MakeEven},
		{"PuzzleOf", func(p impl.Puzzle) (impl.Puzzle, bool) { return impl.PuzzleOf(p.Given, p.Size, p.Rules) }},
	}
	check := func(p puzzleToMake) {
		kept := puzzleWithSpare(p.Puzzle)
		for k := 1; k < len(kept.Rules); k++ {
			// Rules of one puzzle may share their cells.
			if slices.Equal(kept.Rules[k].Cells, kept.Rules[k-1].Cells) {
				kept.Rules[k].Cells = kept.Rules[k-1].Cells
			}
		}
		for _, maker := range makers {
			first, _ := maker.make(kept)
			second, _ := maker.make(kept)
			if !samePuzzle(first, second) {
				t.Fatalf("%s makes %v and %v of %v", maker.name, first, second, p.Puzzle)
			}
			checkOwnMemory(t, maker.name, kept, p.Puzzle, first, second)
		}
		impl.IsMinimal(kept)
		for cell := range kept.Given {
			impl.IsRedundant(kept, cell)
		}
		checkUntouched(t, kept, p.Puzzle)
	}
	eachGivenPuzzle(check)
	eachFullPuzzle(check)
	solved := solvedGrids(2)
	less := impl.Rule{Kind: impl.RuleLess, Cells: []int{0, 1}}
	check(toMake(impl.Puzzle{Size: 2, Given: []int{0, 0, 0, 0}, Rules: slices.Repeat([]impl.Rule{less}, 20)}, solved))
	check(toMake(impl.Puzzle{Size: 2, Given: []int{1, 2, 2, 1}, Rules: slices.Repeat([]impl.Rule{less}, 20)}, solved))
}
