package tests

import (
	"math"
	"slices"
	"testing"

	"loop.example/gridpuzzles/impl"
)

// eachSteppedPuzzle visits the puzzles of eachPuzzle and eachSmallPuzzle, and a fixed selection of others of which little is given, so that rules or pairs must lead on.
func eachSteppedPuzzle(visit func(p puzzleWithWays)) {
	eachPuzzle(func(p impl.Puzzle, solutions [][]int) { visit(withWays(p, solutions)) })
	small := solvedGrids(2)
	eachSmallPuzzle(func(p impl.Puzzle) { visit(withWays(p, solutionsOf(p, small))) })
	next := fixedNumbers()
	for size := 2; size <= 4; size++ {
		solved := solvedGrids(size)
		for turn := range 240 {
			p := puzzleFor(solved[next(uint32(len(solved)))], size, 1+turn%(5*size), next)
			p.Given = thinned(p.Given, turn%5, next)
			if turn%3 == 0 {
				p.Rules = slices.Concat(p.Rules[:turn%2], pairRules(solved[next(uint32(len(solved)))], size))
			}
			visit(withWays(p, solutionsOf(p, solved)))
		}
	}
	large := solvedGrids(4)
	for number, grid := range large {
		row := number % 4
		p := impl.Puzzle{Size: 4, Given: keptInRows(grid, row, (row+1+number/4%3)%4)}
		visit(withWays(p, solutionsOf(p, large)))
	}
}

// keptInRows keeps of a full grid of size 4 the values 3 and 4 in two rows. If they stand in the same columns, the cells above and below them are pairs.
func keptInRows(grid []int, row int, other int) []int {
	kept := make([]int, len(grid))
	for cell, value := range grid {
		if value >= 3 && (cell/4 == row || cell/4 == other) {
			kept[cell] = value
		}
	}
	return kept
}

// pairRules returns for a solved grid the sums of neighbours in a row that have the two least or the two greatest values, which only these two values make.
func pairRules(solved []int, size int) []impl.Rule {
	var rules []impl.Rule
	for cell := range solved {
		if cell%size == size-1 {
			continue
		}
		if sum := solved[cell] + solved[cell+1]; sum == 3 || sum == 2*size-1 {
			rules = append(rules, impl.Rule{Kind: impl.RuleSum, Cells: []int{cell, cell + 1}, Value: sum})
		}
	}
	return rules
}

// eachFittingGrid visits, as what is given, all grids of the sizes 2 and 3 that repeat nothing, with their solutions.
func eachFittingGrid(visit func(p puzzleWithWays)) {
	for size := 2; size <= 3; size++ {
		solved := solvedGrids(size)
		everyGrid(size, func(given []int, size int) {
			if repeatsNothing(given, size) {
				p := impl.Puzzle{Size: size, Given: given}
				visit(withWays(p, solutionsOf(p, solved)))
			}
		})
	}
}

// startOf returns the masks with which solving begins.
func startOf(p impl.Puzzle) []int {
	masks := make([]int, len(p.Given))
	for cell, given := range p.Given {
		for value := 1; value <= p.Size; value++ {
			if given == 0 || given == value {
				masks[cell] += power(value)
			}
		}
	}
	return masks
}

// stepsOf lists the steps of solving without the program, and the masks before the first step and after every one.
func stepsOf(p puzzleWithWays, most int) ([]impl.Step, [][]int) {
	techniques, seen := roundsByAll(p, startOf(p.Puzzle), most)
	var steps []impl.Step
	for k, technique := range techniques {
		steps = append(steps, impl.Step{Technique: technique, Left: valuesLeft(seen[k+1], p.Size)})
	}
	return steps, seen
}

// oneValueEach tells whether every mask has exactly one value.
func oneValueEach(masks []int, size int) bool {
	for cell := range masks {
		if valuesLeft(masks[cell:cell+1], size) != 1 {
			return false
		}
	}
	return true
}

// gradeOf grades a puzzle without the program.
func gradeOf(p puzzleWithWays) int {
	if len(p.solutions) != 1 {
		return impl.GradeNone
	}
	for most := 1; most <= 4; most++ {
		if masks, _ := narrowedByAll(p, startOf(p.Puzzle), most); oneValueEach(masks, p.Size) {
			return most
		}
	}
	return impl.GradeSearch
}

func TestGrades(t *testing.T) {
	if impl.GradeNone != 0 || impl.GradeSearch != 5 {
		t.Fatal(impl.GradeNone, impl.GradeSearch)
	}
}

func TestP42EveryPuzzle(t *testing.T) {
	var used [5]int
	var stepped [3]int
	check := func(p puzzleWithWays) {
		for most := 1; most <= 4; most++ {
			want, _ := stepsOf(p, most)
			steps := impl.SolveSteps(p.Puzzle, most)
			if !slices.Equal(steps, want) {
				t.Fatalf("%v with %d techniques: %v instead of %v", p.Puzzle, most, steps, want)
			}
			for _, step := range steps {
				used[step.Technique]++
			}
			if len(steps) > 0 {
				stepped[min(2, len(p.solutions))]++
			}
		}
	}
	eachSteppedPuzzle(check)
	eachFittingGrid(check)
	for technique := 1; technique <= 4; technique++ {
		if used[technique] < 100 {
			t.Errorf("too few steps of technique %d: %d", technique, used[technique])
		}
	}
	if slices.Min(stepped[:]) < 500 {
		t.Errorf("too few puzzles with steps and none, one or several solutions: %v", stepped)
	}
}

func TestP42StepsTakeValuesAway(t *testing.T) {
	check := func(p puzzleWithWays) {
		start := impl.StartMasks(p.Puzzle)
		for most := 1; most <= 4; most++ {
			left := impl.MasksCount(start, p.Size)
			steps := impl.SolveSteps(p.Puzzle, most)
			for k, step := range steps {
				if step.Technique < 1 || step.Technique > most || step.Left < 0 || step.Left >= left {
					t.Fatalf("%v with %d techniques: step %d of %v", p.Puzzle, most, k, steps)
				}
				left = step.Left
			}
			masks, rounds := impl.NarrowAll(p.Puzzle, start, most)
			if len(steps) != rounds || left != impl.MasksCount(masks, p.Size) {
				t.Fatalf("%v with %d techniques: %v, but %v in %d rounds", p.Puzzle, most, steps, masks, rounds)
			}
		}
	}
	eachSteppedPuzzle(check)
	eachFittingGrid(check)
}

// What is given may be wrong in itself: it is taken as it is.
func TestP42EveryGrid(t *testing.T) {
	visited := 0
	eachGrid(func(given []int, size int) {
		visited++
		if size == 3 && visited%97 != 0 {
			return
		}
		p := puzzleWithWays{Puzzle: impl.Puzzle{Size: size, Given: given}}
		want, seen := stepsOf(p, 4)
		if steps := impl.SolveSteps(p.Puzzle, 4); !slices.Equal(steps, want) {
			t.Fatalf("%v: %v instead of %v", given, steps, want)
		}
		for k, masks := range seen {
			if got := impl.StepMasks(p.Puzzle, k); !slices.Equal(got, masks) {
				t.Fatalf("%v: %v after %d steps", given, got, k)
			}
		}
	})
}

// solvedInSteps is a puzzle with the masks before its first step and after every one, as they must be with all techniques.
type solvedInSteps struct {
	p     impl.Puzzle
	steps []impl.Step
	masks [][]int
}

func somePuzzlesInSteps() []solvedInSteps {
	empty := make([]int, 9)
	all := []int{30, 30, 30, 30, 30, 30, 30, 30, 30, 30, 30, 30, 30, 30, 30, 30}
	rule := func(kind int, cells []int, value int) []impl.Rule {
		return []impl.Rule{{Kind: kind, Cells: cells, Value: value}}
	}
	return []solvedInSteps{
		{impl.Puzzle{Size: 2, Given: []int{0, 0, 0, 0}}, nil, [][]int{{6, 6, 6, 6}}},
		{impl.Puzzle{Size: 2, Given: []int{1, 2, 2, 1}}, nil, [][]int{{2, 4, 4, 2}}},
		{impl.Puzzle{Size: 2, Given: []int{1, 0, 0, 0}}, []impl.Step{{Technique: 1, Left: 5}, {Technique: 1, Left: 4}}, [][]int{{2, 6, 6, 6}, {2, 4, 4, 6}, {2, 4, 4, 2}}},
		// Without a solution the steps go on until nothing is left that changes.
		{impl.Puzzle{Size: 2, Given: []int{1, 1, 0, 0}}, []impl.Step{{Technique: 1, Left: 2}, {Technique: 1, Left: 0}}, [][]int{{2, 2, 6, 6}, {0, 0, 4, 4}, {0, 0, 0, 0}}},
		{impl.Puzzle{Size: 2, Given: []int{1, 0, 0, 2}}, []impl.Step{{Technique: 1, Left: 2}}, [][]int{{2, 6, 6, 4}, {2, 0, 0, 4}}},
		{impl.Puzzle{Size: 2, Given: make([]int, 4), Rules: rule(impl.RuleSum, []int{3}, 4)}, []impl.Step{{Technique: 4, Left: 6}, {Technique: 2, Left: 2}, {Technique: 2, Left: 0}}, [][]int{{6, 6, 6, 6}, {6, 6, 6, 0}, {6, 0, 0, 0}, {0, 0, 0, 0}}},
		// A rule that does not hold is looked at even if every cell has a value.
		{impl.Puzzle{Size: 2, Given: []int{1, 2, 2, 1}, Rules: rule(impl.RuleLess, []int{1, 3}, 0)}, []impl.Step{{Technique: 4, Left: 2}}, [][]int{{2, 4, 4, 2}, {2, 0, 4, 0}}},
		{impl.Puzzle{Size: 2, Given: make([]int, 4), Rules: rule(impl.RuleLess, []int{0, 1}, 0)}, []impl.Step{{Technique: 4, Left: 6}, {Technique: 1, Left: 4}}, [][]int{{6, 6, 6, 6}, {2, 4, 6, 6}, {2, 4, 4, 2}}},
		// Puzzles with several solutions.
		{impl.Puzzle{Size: 3, Given: empty}, nil, [][]int{{14, 14, 14, 14, 14, 14, 14, 14, 14}}},
		{impl.Puzzle{Size: 3, Given: []int{1, 0, 0, 0, 0, 0, 0, 0, 0}}, []impl.Step{{Technique: 1, Left: 21}}, [][]int{{2, 14, 14, 14, 14, 14, 14, 14, 14}, {2, 12, 12, 12, 14, 14, 12, 14, 14}}},
		{impl.Puzzle{Size: 3, Given: empty, Rules: rule(impl.RuleSum, []int{0, 1}, 3)}, []impl.Step{{Technique: 4, Left: 25}, {Technique: 2, Left: 23}, {Technique: 1, Left: 21}}, [][]int{{14, 14, 14, 14, 14, 14, 14, 14, 14}, {6, 6, 14, 14, 14, 14, 14, 14, 14}, {6, 6, 8, 14, 14, 14, 14, 14, 14}, {6, 6, 8, 14, 14, 6, 14, 14, 6}}},
		{impl.Puzzle{Size: 4, Given: make([]int, 16), Rules: rule(impl.RuleSum, []int{0, 1}, 3)}, []impl.Step{{Technique: 4, Left: 60}, {Technique: 3, Left: 56}}, [][]int{all, append([]int{6, 6, 30, 30}, all[4:]...), append([]int{6, 6, 24, 24}, all[4:]...)}},
	}
}

func TestP42SomePuzzles(t *testing.T) {
	for _, c := range somePuzzlesInSteps() {
		if steps := impl.SolveSteps(c.p, 4); !slices.Equal(steps, c.steps) {
			t.Errorf("%v: %v", c.p, steps)
		}
	}
	sum := impl.Puzzle{Size: 3, Given: []int{0, 0, 0, 0, 0, 0, 0, 0, 1}, Rules: []impl.Rule{{Kind: impl.RuleSum, Cells: []int{0, 1}, Value: 3}}}
	for most, want := range [][]impl.Step{
		1: {{Technique: 1, Left: 21}},
		2: {{Technique: 1, Left: 21}},
		3: {{Technique: 1, Left: 21}},
		4: {{Technique: 1, Left: 21}, {Technique: 4, Left: 19}, {Technique: 2, Left: 18}, {Technique: 1, Left: 17}, {Technique: 1, Left: 15}},
	} {
		if steps := impl.SolveSteps(sum, most); !slices.Equal(steps, want) {
			t.Errorf("%v with %d techniques: %v", sum, most, steps)
		}
	}
}

func TestP42InvalidArguments(t *testing.T) {
	for _, p := range invalidPuzzles() {
		for most := 0; most <= 5; most++ {
			if steps := impl.SolveSteps(p, most); len(steps) != 0 {
				t.Fatalf("the invalid %v has the steps %v", p, steps)
			}
		}
	}
	eachPuzzle(func(p impl.Puzzle, solutions [][]int) {
		for _, most := range wrongTechniques {
			if steps := impl.SolveSteps(p, most); len(steps) != 0 {
				t.Fatalf("%v with %d techniques: %v", p, most, steps)
			}
		}
	})
}

func TestP43EveryPuzzle(t *testing.T) {
	check := func(p puzzleWithWays) {
		_, seen := stepsOf(p, 4)
		for k, want := range seen {
			if masks := impl.StepMasks(p.Puzzle, k); !slices.Equal(masks, want) {
				t.Fatalf("%v after %d steps: %v instead of %v", p.Puzzle, k, masks, want)
			}
		}
		if masks := impl.StepMasks(p.Puzzle, len(seen)); len(masks) != 0 {
			t.Fatalf("%v has %v after its last step", p.Puzzle, masks)
		}
	}
	eachSteppedPuzzle(check)
	eachFittingGrid(check)
}

func TestP43StepsLeadOn(t *testing.T) {
	check := func(p puzzleWithWays) {
		masks := impl.StepMasks(p.Puzzle, 0)
		if !slices.Equal(masks, impl.StartMasks(p.Puzzle)) {
			t.Fatalf("%v begins with %v", p.Puzzle, masks)
		}
		steps := impl.SolveSteps(p.Puzzle, 4)
		for k, step := range steps {
			after := impl.StepMasks(p.Puzzle, k+1)
			if !masksWithin(after, masks) || impl.MasksCount(after, p.Size) != step.Left || !slices.Equal(after, impl.NarrowBy(p.Puzzle, masks, step.Technique)) {
				t.Fatalf("%v: step %d of %v makes %v of %v", p.Puzzle, k, steps, after, masks)
			}
			masks = after
		}
		if all, _ := impl.NarrowAll(p.Puzzle, impl.StartMasks(p.Puzzle), 4); !slices.Equal(masks, all) {
			t.Fatalf("%v becomes %v in all steps, and %v in all rounds", p.Puzzle, masks, all)
		}
	}
	eachSteppedPuzzle(check)
	eachFittingGrid(check)
}

func TestP43SomePuzzles(t *testing.T) {
	for _, c := range somePuzzlesInSteps() {
		for k, want := range c.masks {
			if masks := impl.StepMasks(c.p, k); !slices.Equal(masks, want) {
				t.Errorf("%v after %d steps: %v", c.p, k, masks)
			}
		}
	}
}

func TestP43InvalidArguments(t *testing.T) {
	for _, p := range invalidPuzzles() {
		for steps := -1; steps <= 3; steps++ {
			if masks := impl.StepMasks(p, steps); len(masks) != 0 {
				t.Fatalf("the invalid %v after %d steps: %v", p, steps, masks)
			}
		}
	}
	eachPuzzle(func(p impl.Puzzle, solutions [][]int) {
		many := len(impl.SolveSteps(p, 4))
		for _, steps := range []int{-1, -2, -1 << 32, math.MinInt, many + 1, many + 2, many + 100, 1 << 32, 1<<32 + many, math.MaxInt} {
			if masks := impl.StepMasks(p, steps); len(masks) != 0 {
				t.Fatalf("%v with %d steps after %d: %v", p, many, steps, masks)
			}
		}
	})
}

func TestP44EveryPuzzle(t *testing.T) {
	var graded [5][6]int
	check := func(p puzzleWithWays) {
		grade := impl.GradePuzzle(p.Puzzle)
		if want := gradeOf(p); grade != want {
			t.Fatalf("%v has the grade %d instead of %d", p.Puzzle, grade, want)
		}
		graded[p.Size][grade]++
	}
	eachSteppedPuzzle(check)
	eachFittingGrid(check)
	for size := 2; size <= 4; size++ {
		for _, grade := range []int{impl.GradeNone, 1, 4, impl.GradeSearch} {
			if graded[size][grade] < 10 {
				t.Errorf("too few puzzles of size %d with the grade %d: %d", size, grade, graded[size][grade])
			}
		}
	}
}

func TestP44GradesAreTechniques(t *testing.T) {
	check := func(p puzzleWithWays) {
		grade := impl.GradePuzzle(p.Puzzle)
		if (grade == impl.GradeNone) != (impl.CountSolutions(p.Puzzle, 600) != 1) {
			t.Fatalf("%v has the grade %d, and %d solutions", p.Puzzle, grade, len(p.solutions))
		}
		if grade == impl.GradeNone {
			return
		}
		solution, _ := impl.SolveFirst(p.Puzzle)
		for most := 1; most <= 4; most++ {
			masks, _ := impl.NarrowAll(p.Puzzle, impl.StartMasks(p.Puzzle), most)
			found := slices.Equal(impl.MasksGrid(masks, p.Size), solution)
			if found != (most >= grade) {
				t.Fatalf("%v has the grade %d; with %d techniques its solution is found: %v", p.Puzzle, grade, most, found)
			}
		}
	}
	eachSteppedPuzzle(check)
	eachFittingGrid(check)
}

// orderedSquares lists the solved grids whose first row and first column ascend. Every other one is one of these with its rows, columns and values in another order, which does not matter to puzzles without rules.
func orderedSquares(size int) [][]int {
	var squares [][]int
	for _, grid := range solvedGrids(size) {
		if slices.IsSorted(lineOf(grid, size, 0)) && slices.IsSorted(lineOf(grid, size, size)) {
			squares = append(squares, grid)
		}
	}
	return squares
}

// differences tells for every solved grid in which cells it differs from a grid, as the sum of 2^k over their numbers k.
func differences(grid []int, size int) []int {
	var sums []int
	for _, solved := range solvedGrids(size) {
		sum := 0
		for cell, value := range solved {
			if value != grid[cell] {
				sum += power(cell)
			}
		}
		sums = append(sums, sum)
	}
	return sums
}

// Without rules the first technique finds every only solution. So no puzzle has the grade 2 or 3, because the second and the third technique do not look at rules either.
func TestP44EveryPuzzleWithoutRules(t *testing.T) {
	for size := 2; size <= 4; size++ {
		for _, square := range orderedSquares(size) {
			others := differences(square, size)
			for kept := range 1 << len(square) {
				given, solutions := slices.Clone(square), 0
				for cell := range given {
					if kept>>cell&1 == 0 {
						given[cell] = 0
					}
				}
				for _, differs := range others {
					if differs&kept == 0 {
						solutions++
					}
				}
				if grade := impl.GradePuzzle(impl.Puzzle{Size: size, Given: given}); (grade == 1) != (solutions == 1) || grade > 1 {
					t.Fatalf("%v has %d solutions and the grade %d", given, solutions, grade)
				}
			}
		}
	}
}

func TestP44SomePuzzles(t *testing.T) {
	rules := func(kind int, cells []int, value int) []impl.Rule {
		return []impl.Rule{{Kind: kind, Cells: cells, Value: value}}
	}
	for _, c := range []struct {
		p    impl.Puzzle
		want int
	}{
		{impl.Puzzle{Size: 2, Given: []int{1, 0, 0, 0}}, 1},
		{impl.Puzzle{Size: 3, Given: []int{0, 0, 0, 3, 0, 0, 0, 0, 1}}, 1},
		{impl.Puzzle{Size: 4, Given: []int{0, 4, 0, 2, 0, 1, 2, 0, 3, 0, 0, 4, 0, 0, 0, 0}}, 1},
		// Where everything is given, one technique is enough though it makes no round.
		{impl.Puzzle{Size: 2, Given: []int{1, 2, 2, 1}}, 1},
		{impl.Puzzle{Size: 4, Given: impl.SquareOf(4)}, 1},
		{impl.Puzzle{Size: 2, Given: []int{1, 2, 2, 1}, Rules: rules(impl.RuleLess, []int{0, 1}, 0)}, 1},
		// Several solutions.
		{impl.Puzzle{Size: 2, Given: []int{0, 0, 0, 0}}, impl.GradeNone},
		{impl.Puzzle{Size: 4, Given: make([]int, 16)}, impl.GradeNone},
		{impl.Puzzle{Size: 3, Given: make([]int, 9), Rules: rules(impl.RuleSum, []int{0, 1}, 3)}, impl.GradeNone},
		{impl.Puzzle{Size: 2, Given: make([]int, 4), Rules: rules(impl.RuleApart, []int{0, 1}, 1)}, impl.GradeNone},
		// Exactly two.
		{impl.Puzzle{Size: 3, Given: []int{1, 2, 3, 0, 0, 0, 0, 0, 0}}, impl.GradeNone},
		// No solution.
		{impl.Puzzle{Size: 2, Given: []int{1, 1, 0, 0}}, impl.GradeNone},
		{impl.Puzzle{Size: 2, Given: []int{1, 0, 0, 2}}, impl.GradeNone},
		{impl.Puzzle{Size: 3, Given: []int{1, 2, 0, 0, 0, 3, 0, 0, 0}}, impl.GradeNone},
		// No solution either, though three techniques leave one value in every mask: the rule does not hold.
		{impl.Puzzle{Size: 2, Given: []int{1, 2, 2, 1}, Rules: rules(impl.RuleLess, []int{1, 0}, 0)}, impl.GradeNone},
		{impl.Puzzle{Size: 2, Given: []int{1, 0, 0, 0}, Rules: rules(impl.RuleLess, []int{1, 0}, 0)}, impl.GradeNone},
		{impl.Puzzle{Size: 4, Given: impl.SquareOf(4), Rules: rules(impl.RuleSum, []int{0}, 256)}, impl.GradeNone},
		{impl.Puzzle{Size: 2, Given: make([]int, 4), Rules: rules(impl.RuleLess, []int{0, 1}, 0)}, 4},
		{impl.Puzzle{Size: 2, Given: make([]int, 4), Rules: rules(impl.RuleSum, []int{0, 3}, 2)}, 4},
		{impl.Puzzle{Size: 3, Given: []int{1, 0, 0, 0, 0, 0, 0, 0, 0}, Rules: []impl.Rule{{Kind: impl.RuleLess, Cells: []int{1, 2}}, {Kind: impl.RuleApart, Cells: []int{0, 4}, Value: 0}}}, 4},
		// Each of the three cells can be the one with 1, as far as the rule knows.
		{impl.Puzzle{Size: 2, Given: make([]int, 4), Rules: rules(impl.RuleSum, []int{0, 1, 2}, 5)}, impl.GradeSearch},
	} {
		if grade := impl.GradePuzzle(c.p); grade != c.want {
			t.Errorf("%v has the grade %d", c.p, grade)
		}
	}
}

func TestP44InvalidPuzzles(t *testing.T) {
	for _, p := range invalidPuzzles() {
		if grade := impl.GradePuzzle(p); grade != -1 {
			t.Fatalf("the invalid %v has the grade %d", p, grade)
		}
	}
}

func TestP45EveryPuzzle(t *testing.T) {
	var used [4]int
	check := func(p puzzleWithWays) {
		want := make([]int, 4)
		steps, _ := stepsOf(p, 4)
		for _, step := range steps {
			want[step.Technique-1]++
		}
		counts := impl.TechniqueCounts(p.Puzzle)
		if !slices.Equal(counts, want) {
			t.Fatalf("%v: %v instead of %v", p.Puzzle, counts, want)
		}
		together := 0
		for k, count := range counts {
			together += count
			used[k] += count
		}
		if together != len(impl.SolveSteps(p.Puzzle, 4)) {
			t.Fatalf("%v: %v are not all steps", p.Puzzle, counts)
		}
	}
	eachSteppedPuzzle(check)
	eachFittingGrid(check)
	if slices.Min(used[:]) < 100 {
		t.Errorf("too few steps of some technique: %v", used)
	}
}

func TestP45SomePuzzles(t *testing.T) {
	for _, c := range somePuzzlesInSteps() {
		want := make([]int, 4)
		for _, step := range c.steps {
			want[step.Technique-1]++
		}
		if counts := impl.TechniqueCounts(c.p); !slices.Equal(counts, want) {
			t.Errorf("%v: %v", c.p, counts)
		}
	}
}

func TestP45InvalidPuzzles(t *testing.T) {
	for _, p := range invalidPuzzles() {
		if counts := impl.TechniqueCounts(p); len(counts) != 0 {
			t.Fatalf("the invalid %v: %v", p, counts)
		}
	}
}

func TestP115MoreTechniquesFindMore(t *testing.T) {
	var more [5]int
	check := func(p puzzleWithWays) {
		if len(p.solutions) == 0 {
			return
		}
		start := impl.StartMasks(p.Puzzle)
		fewer := start
		for most := 1; most <= 4; most++ {
			masks, rounds := impl.NarrowAll(p.Puzzle, start, most)
			if rounds < 0 || !masksWithin(masks, fewer) {
				t.Fatalf("%v becomes %v with %d techniques, and %v with one less", p.Puzzle, masks, most, fewer)
			}
			if !slices.Equal(masks, fewer) {
				more[most]++
			}
			fewer = masks
		}
	}
	eachSteppedPuzzle(check)
	eachFittingGrid(check)
	if slices.Min(more[1:]) < 20 {
		t.Errorf("too few puzzles for which a technique finds more: %v", more)
	}
}

func TestP115FirstSolutionIsKept(t *testing.T) {
	kept := 0
	check := func(p puzzleWithWays) {
		first, ok := impl.SolveFirst(p.Puzzle)
		if !ok {
			return
		}
		for steps := 0; ; steps++ {
			masks := impl.StepMasks(p.Puzzle, steps)
			if len(masks) == 0 {
				break
			}
			checkKept(t, p.Puzzle, masks, first)
		}
		for most := 1; most <= 4; most++ {
			masks, _ := impl.NarrowAll(p.Puzzle, impl.StartMasks(p.Puzzle), most)
			checkKept(t, p.Puzzle, masks, first)
		}
		kept++
	}
	eachSteppedPuzzle(check)
	eachFittingGrid(check)
	if kept < 1000 {
		t.Errorf("too few puzzles with a solution: %d", kept)
	}
}

// checkKept fails if masks have lost a solution, or one more round of some technique loses it.
func checkKept(t *testing.T, p impl.Puzzle, masks []int, solution []int) {
	t.Helper()
	if !impl.MasksHave(masks, p.Size, solution) {
		t.Fatalf("%v: %v is not in %v", p, solution, masks)
	}
	for technique := 1; technique <= 4; technique++ {
		if narrowed := impl.NarrowBy(p, masks, technique); !impl.MasksHave(narrowed, p.Size, solution) {
			t.Fatalf("%v: technique %d makes %v of %v, without %v", p, technique, narrowed, masks, solution)
		}
	}
}

func TestP115SomePuzzles(t *testing.T) {
	rules := []impl.Rule{{Kind: impl.RuleLess, Cells: []int{0, 1}}}
	unpaired := []int{6, 6, 30, 30, 6, 6, 30, 30, 8, 16, 6, 6, 16, 8, 6, 6}
	paired := []int{6, 6, 24, 24, 6, 6, 24, 24, 8, 16, 6, 6, 16, 8, 6, 6}
	for _, c := range []struct {
		p    impl.Puzzle
		want [5][]int
	}{
		{impl.Puzzle{Size: 2, Given: make([]int, 4), Rules: rules}, [5][]int{1: {6, 6, 6, 6}, 2: {6, 6, 6, 6}, 3: {6, 6, 6, 6}, 4: {2, 4, 4, 2}}},
		// Pairs of 1 and 2 leave 3 and 4 beside them.
		{impl.Puzzle{Size: 4, Given: []int{0, 0, 0, 0, 0, 0, 0, 0, 3, 4, 0, 0, 4, 3, 0, 0}}, [5][]int{1: unpaired, 2: unpaired, 3: paired, 4: paired}},
		// The second technique finds the place of 1 in the last row.
		{impl.Puzzle{Size: 3, Given: []int{1, 0, 0, 0, 1, 0, 0, 0, 0}}, [5][]int{1: {2, 12, 12, 12, 2, 12, 12, 12, 14}, 2: {2, 12, 12, 12, 2, 12, 12, 12, 2}, 3: {2, 12, 12, 12, 2, 12, 12, 12, 2}, 4: {2, 12, 12, 12, 2, 12, 12, 12, 2}}},
	} {
		for most := 1; most <= 4; most++ {
			if masks, _ := impl.NarrowAll(c.p, impl.StartMasks(c.p), most); !slices.Equal(masks, c.want[most]) {
				t.Errorf("%v becomes %v with %d techniques", c.p, masks, most)
			}
		}
	}
}

func TestP115InvalidPuzzles(t *testing.T) {
	for _, p := range invalidPuzzles() {
		for most := 1; most <= 2; most++ {
			if masks, rounds := impl.NarrowAll(p, impl.StartMasks(p), most); len(masks) != 0 || rounds != -1 {
				t.Fatalf("the invalid %v becomes %v in %d rounds", p, masks, rounds)
			}
		}
		if first, ok := impl.SolveFirst(p); ok || len(first) != 0 {
			t.Fatalf("the invalid %v has the first solution %v", p, first)
		}
	}
}

func TestP137EasyPuzzles(t *testing.T) {
	easy, stepped := 0, 0
	check := func(p puzzleWithWays) {
		if impl.GradePuzzle(p.Puzzle) != 1 {
			return
		}
		easy++
		steps := impl.SolveSteps(p.Puzzle, 4)
		for k, step := range steps {
			if step.Technique != 1 {
				t.Fatalf("%v: step %d of %v", p.Puzzle, k, steps)
			}
			stepped++
		}
		if !slices.Equal(impl.TechniqueCounts(p.Puzzle), []int{len(steps), 0, 0, 0}) || !slices.Equal(impl.SolveSteps(p.Puzzle, 1), steps) {
			t.Fatalf("%v: %v", p.Puzzle, steps)
		}
		if masks := impl.StepMasks(p.Puzzle, len(steps)); !oneValueEach(masks, p.Size) {
			t.Fatalf("%v becomes %v", p.Puzzle, masks)
		}
	}
	eachSteppedPuzzle(check)
	eachFittingGrid(check)
	if easy < 1000 || stepped < 1000 {
		t.Errorf("too few puzzles with the grade 1 (%d) and steps (%d)", easy, stepped)
	}
}

func TestP137SomePuzzles(t *testing.T) {
	for _, c := range []struct {
		p    impl.Puzzle
		want []int
	}{
		{impl.Puzzle{Size: 2, Given: []int{1, 2, 2, 1}}, nil},
		{impl.Puzzle{Size: 2, Given: []int{1, 0, 0, 0}}, []int{5, 4}},
		// A rule is not looked at, though it would find the same at once.
		{impl.Puzzle{Size: 2, Given: []int{1, 0, 0, 0}, Rules: []impl.Rule{{Kind: impl.RuleSum, Cells: []int{3}, Value: 1}}}, []int{5, 4}},
		{impl.Puzzle{Size: 3, Given: []int{1, 0, 0, 0, 2, 0, 0, 0, 0}}, []int{15, 11, 9}},
	} {
		var want []impl.Step
		for _, left := range c.want {
			want = append(want, impl.Step{Technique: 1, Left: left})
		}
		if steps := impl.SolveSteps(c.p, 4); !slices.Equal(steps, want) || impl.GradePuzzle(c.p) != 1 {
			t.Errorf("%v has the grade %d and the steps %v", c.p, impl.GradePuzzle(c.p), steps)
		}
	}
}

func TestP137InvalidPuzzles(t *testing.T) {
	for _, p := range invalidPuzzles() {
		if grade, steps := impl.GradePuzzle(p), impl.SolveSteps(p, 4); grade != -1 || len(steps) != 0 {
			t.Fatalf("the invalid %v has the grade %d and the steps %v", p, grade, steps)
		}
	}
}

func TestStepResultsAreNew(t *testing.T) {
	eachPuzzle(func(p impl.Puzzle, solutions [][]int) {
		kept := puzzleWithSpare(p)
		with := func(given []int) impl.Puzzle {
			return impl.Puzzle{Size: kept.Size, Given: given, Rules: kept.Rules}
		}
		for steps := range 1 + len(impl.SolveSteps(p, 4)) {
			checkFresh(t, "StepMasks", p.Given, func(given []int) []int { return impl.StepMasks(with(given), steps) })
		}
		checkFresh(t, "TechniqueCounts", p.Given, func(given []int) []int { return impl.TechniqueCounts(with(given)) })
		checkFresh(t, "GradePuzzle", p.Given, func(given []int) []int { return []int{impl.GradePuzzle(with(given))} })
		for most := 1; most <= 4; most++ {
			checkFreshSteps(t, kept, most)
		}
		checkUntouched(t, kept, p)
	})
}

// checkFreshSteps fails if the steps of two calls share memory.
func checkFreshSteps(t *testing.T, p impl.Puzzle, most int) {
	t.Helper()
	first := impl.SolveSteps(p, most)
	want := slices.Clone(first)
	second := impl.SolveSteps(p, most)
	for k := range first[:cap(first)] {
		first[:cap(first)][k] = impl.Step{Technique: 99, Left: 99}
	}
	if !slices.Equal(second, want) || !slices.Equal(impl.SolveSteps(p, most), want) {
		t.Fatalf("two lists of the steps of %v share memory", p)
	}
}
