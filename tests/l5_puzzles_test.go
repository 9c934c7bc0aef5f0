package tests

import (
	"math"
	"slices"
	"testing"

	"loop.example/gridpuzzles/impl"
)

// eachPuzzle visits a fixed selection of puzzles with their solutions. Most of them are made for a solved grid; in some a value or a rule is put in that need not be right for it.
func eachPuzzle(visit func(p impl.Puzzle, solutions [][]int)) {
	next := fixedNumbers()
	for size := 2; size <= 4; size++ {
		solved := solvedGrids(size)
		visit(impl.Puzzle{Size: size, Given: make([]int, size*size)}, solved)
		for turn := range 60 {
			for _, many := range []int{0, 1, 2, 3, 5, 8, 20} {
				p := puzzleFor(solved[next(uint32(len(solved)))], size, many, next)
				if turn%4 == 1 {
					p.Given[next(uint32(size*size))] = 1 + next(uint32(size))
				}
				if turn%4 == 2 && many > 0 {
					p.Rules[next(uint32(many))] = anyRule(size, next)
				}
				visit(p, solutionsOf(p, solved))
			}
		}
	}
}

// puzzleFor returns a puzzle with so many rules that has a solved grid among its solutions.
func puzzleFor(solved []int, size int, many int, next func(limit uint32) int) impl.Puzzle {
	p := impl.Puzzle{Size: size, Given: thinned(solved, next(12), next)}
	for range many {
		p.Rules = append(p.Rules, ruleFor(solved, size, next))
	}
	return p
}

// thinned returns a grid in which about so many sixteenths of the cells are kept.
func thinned(grid []int, density int, next func(limit uint32) int) []int {
	kept := slices.Clone(grid)
	for cell := range kept {
		if next(16) >= density {
			kept[cell] = 0
		}
	}
	return kept
}

// ruleFor returns a rule that holds for a full grid.
func ruleFor(grid []int, size int, next func(limit uint32) int) impl.Rule {
	for {
		if rule := anyRule(size, next); heldBy(rule, valuesAt(rule, grid)) {
			return rule
		}
	}
}

// anyRule returns a valid rule of any kind that holds for some values.
func anyRule(size int, next func(limit uint32) int) impl.Rule {
	kind, many := 1+next(5), 2
	if kind == impl.RuleDifferent {
		many = 2 + next(3)
	}
	if kind == impl.RuleSum || kind == impl.RuleProduct {
		many = 1 + next(4)
	}
	rule := impl.Rule{Kind: kind}
	sum, product := 0, 1
	for len(rule.Cells) < many {
		if cell := next(uint32(size * size)); !slices.Contains(rule.Cells, cell) {
			value := 1 + next(uint32(size))
			rule.Cells, sum, product = append(rule.Cells, cell), sum+value, product*value
		}
	}
	switch kind {
	case impl.RuleSum:
		rule.Value = sum
	case impl.RuleProduct:
		rule.Value = product
	case impl.RuleApart:
		rule.Value = next(uint32(size))
	}
	return rule
}

// solutionsOf picks the solutions of a puzzle from the solved grids of its size.
func solutionsOf(p impl.Puzzle, solved [][]int) [][]int {
	var solutions [][]int
	for _, grid := range solved {
		if isSolution(p, grid) {
			solutions = append(solutions, grid)
		}
	}
	return solutions
}

// isSolution leaves out to ask whether the full grid repeats something.
func isSolution(p impl.Puzzle, grid []int) bool {
	for _, rule := range p.Rules {
		if !heldBy(rule, valuesAt(rule, grid)) {
			return false
		}
	}
	return agrees(grid, p.Given)
}

// eachPuzzleAndGrid visits the puzzles of eachPuzzle with full, thinned and changed grids of the same size, among them many that nearly fit.
func eachPuzzleAndGrid(visit func(p impl.Puzzle, grid []int)) {
	next := fixedNumbers()
	lists := [5][][]int{2: solvedGrids(2), 3: solvedGrids(3), 4: solvedGrids(4)}
	eachPuzzle(func(p impl.Puzzle, solutions [][]int) {
		visit(p, slices.Clone(p.Given))
		visit(p, make([]int, len(p.Given)))
		for _, list := range [][][]int{lists[p.Size], solutions} {
			if len(list) == 0 {
				continue
			}
			for _, density := range []int{4, 8, 12, 16} {
				grid := thinned(list[next(uint32(len(list)))], density, next)
				visit(p, slices.Clone(grid))
				grid[next(uint32(len(grid)))] = next(uint32(p.Size + 1))
				visit(p, grid)
			}
		}
	})
}

// eachSmallPuzzle visits all puzzles of size 2 with at most one rule of someRules.
func eachSmallPuzzle(visit func(p impl.Puzzle)) {
	lists := [][]impl.Rule{nil}
	for _, r := range someRules() {
		if r.size == 2 {
			lists = append(lists, []impl.Rule{r.rule})
		}
	}
	for _, rules := range lists {
		everyGrid(2, func(given []int, size int) {
			visit(impl.Puzzle{Size: 2, Given: given, Rules: rules})
		})
	}
}

// invalidPuzzles names every way in which a puzzle can be invalid.
func invalidPuzzles() []impl.Puzzle {
	var invalid []impl.Puzzle
	for _, g := range invalidGrids() {
		invalid = append(invalid, impl.Puzzle{Size: g.size, Given: g.grid})
		invalid = append(invalid, impl.Puzzle{Size: g.size, Given: g.grid, Rules: []impl.Rule{{Kind: impl.RuleLess, Cells: []int{0, 1}}}})
	}
	for _, r := range invalidRules() {
		for _, grid := range gridsFor(r.size) {
			invalid = append(invalid, impl.Puzzle{Size: r.size, Given: grid, Rules: []impl.Rule{r.rule}})
		}
	}
	for size := 2; size <= 4; size++ {
		less := impl.Rule{Kind: impl.RuleLess, Cells: []int{0, 1}}
		for _, many := range []int{21, 22, 100} {
			invalid = append(invalid, impl.Puzzle{Size: size, Given: make([]int, size*size), Rules: slices.Repeat([]impl.Rule{less}, many)})
		}
	}
	return append(invalid, impl.Puzzle{})
}

func TestP1EveryPuzzle(t *testing.T) {
	var none, one, several [5]int
	eachPuzzle(func(p impl.Puzzle, solutions [][]int) {
		if got := impl.CountSolutions(p, 600); got != len(solutions) {
			t.Fatalf("%v: %d solutions instead of %d", p, got, len(solutions))
		}
		switch len(solutions) {
		case 0:
			none[p.Size]++
		case 1:
			one[p.Size]++
		default:
			several[p.Size]++
		}
	})
	for size := 2; size <= 4; size++ {
		if none[size] < 20 || one[size] < 20 || several[size] < 20 {
			t.Errorf("size %d: too few puzzles with none (%d), one (%d) or several solutions (%d)", size, none[size], one[size], several[size])
		}
	}
}

func TestP1SmallPuzzles(t *testing.T) {
	solved := solvedGrids(2)
	eachSmallPuzzle(func(p impl.Puzzle) {
		if got, want := impl.CountSolutions(p, 600), len(solutionsOf(p, solved)); got != want {
			t.Fatalf("%v: %d solutions instead of %d", p, got, want)
		}
	})
}

func TestP1SmallerLimits(t *testing.T) {
	eachPuzzle(func(p impl.Puzzle, solutions [][]int) {
		many := len(solutions)
		for _, most := range []int{1, 2, 3, 10, many - 1, many, many + 1, 575, 576, 577, 599} {
			if most < 1 {
				continue
			}
			if got := impl.CountSolutions(p, most); got != min(many, most) {
				t.Fatalf("%v: %d of %d solutions with the limit %d", p, got, many, most)
			}
		}
	})
}

func TestP1EveryLimit(t *testing.T) {
	for size, many := range map[int]int{2: 2, 3: 12, 4: 576} {
		for most := 1; most <= 600; most++ {
			p := impl.Puzzle{Size: size, Given: make([]int, size*size)}
			if got := impl.CountSolutions(p, most); got != min(many, most) {
				t.Fatalf("size %d: %d solutions with the limit %d", size, got, most)
			}
		}
	}
}

func TestP1EveryGridWithoutRules(t *testing.T) {
	for size := 2; size <= 3; size++ {
		solved := solvedGrids(size)
		everyGrid(size, func(given []int, size int) {
			p := impl.Puzzle{Size: size, Given: given}
			if got, want := impl.CountSolutions(p, 600), len(solutionsOf(p, solved)); got != want {
				t.Fatalf("%v: %d solutions instead of %d", given, got, want)
			}
		})
	}
}

func TestP1EveryRule(t *testing.T) {
	lists := [5][][]int{2: solvedGrids(2), 3: solvedGrids(3), 4: solvedGrids(4)}
	eachRule(func(r sizedRule, ways [][]int) {
		p := impl.Puzzle{Size: r.size, Given: make([]int, r.size*r.size), Rules: []impl.Rule{r.rule}}
		if got, want := impl.CountSolutions(p, 600), len(solutionsOf(p, lists[r.size])); got != want {
			t.Fatalf("%v of size %d: %d solutions instead of %d", r.rule, r.size, got, want)
		}
	})
}

func TestP1SomePuzzles(t *testing.T) {
	less := impl.Rule{Kind: impl.RuleLess, Cells: []int{1, 2}}
	for _, c := range []struct {
		p    impl.Puzzle
		want int
	}{
		{impl.Puzzle{Size: 2, Given: []int{1, 0, 0, 0}}, 1},
		{impl.Puzzle{Size: 2, Given: []int{0, 0, 0, 0}}, 2},
		{impl.Puzzle{Size: 2, Given: []int{1, 2, 2, 1}}, 1},
		{impl.Puzzle{Size: 2, Given: []int{1, 1, 0, 0}}, 0},
		{impl.Puzzle{Size: 2, Given: []int{1, 0, 1, 0}}, 0},
		{impl.Puzzle{Size: 2, Given: []int{1, 0, 0, 2}}, 0},
		{impl.Puzzle{Size: 2, Given: []int{1, 1, 1, 1}}, 0},
		{impl.Puzzle{Size: 3, Given: []int{1, 0, 0, 0, 0, 0, 0, 0, 0}}, 4},
		{impl.Puzzle{Size: 3, Given: []int{1, 0, 0, 0, 0, 0, 0, 0, 0}, Rules: []impl.Rule{less}}, 2},
		{impl.Puzzle{Size: 3, Given: []int{1, 0, 0, 0, 1, 0, 0, 0, 0}, Rules: []impl.Rule{less}}, 1},
		{impl.Puzzle{Size: 3, Given: []int{1, 3, 0, 0, 0, 0, 0, 0, 0}, Rules: []impl.Rule{less}}, 0},
		// All cells of the rule are given, and the wrong way round.
		{impl.Puzzle{Size: 3, Given: []int{1, 3, 2, 0, 0, 0, 0, 0, 0}, Rules: []impl.Rule{less}}, 0},
		{impl.Puzzle{Size: 3, Given: []int{1, 2, 3, 2, 3, 1, 3, 1, 2}, Rules: []impl.Rule{less}}, 1},
		{impl.Puzzle{Size: 3, Given: []int{1, 2, 3, 2, 3, 1, 3, 1, 2}, Rules: []impl.Rule{{Kind: impl.RuleSum, Cells: []int{8}, Value: 3}}}, 0},
		// The same rule twice is as good as once, and it may stand at any place.
		{impl.Puzzle{Size: 3, Given: make([]int, 9), Rules: []impl.Rule{less, less}}, 6},
		{impl.Puzzle{Size: 3, Given: make([]int, 9), Rules: slices.Repeat([]impl.Rule{less}, 20)}, 6},
		{impl.Puzzle{Size: 3, Given: make([]int, 9), Rules: []impl.Rule{less, {Kind: impl.RuleLess, Cells: []int{2, 1}}}}, 0},
		{impl.Puzzle{Size: 4, Given: make([]int, 16)}, 576},
		{impl.Puzzle{Size: 4, Given: make([]int, 16), Rules: []impl.Rule{{Kind: impl.RuleDifferent, Cells: []int{15, 11, 7, 3}}}}, 576},
		{impl.Puzzle{Size: 4, Given: make([]int, 16), Rules: []impl.Rule{{Kind: impl.RuleApart, Cells: []int{0, 1}}}}, 0},
		{impl.Puzzle{Size: 4, Given: make([]int, 16), Rules: []impl.Rule{{Kind: impl.RuleSum, Cells: []int{0, 1}, Value: 256}}}, 0},
		{impl.Puzzle{Size: 4, Given: []int{1, 2, 3, 4, 0, 0, 0, 0, 0, 0, 0, 0, 0, 0, 0, 0}}, 24},
	} {
		if got := impl.CountSolutions(c.p, 600); got != c.want {
			t.Errorf("%v: %d solutions instead of %d", c.p, got, c.want)
		}
	}
}

func TestP1InvalidArguments(t *testing.T) {
	wrong := []int{0, -1, -600, 601, 602, 1 << 32, 1<<32 + 1, math.MinInt, math.MaxInt}
	for _, p := range invalidPuzzles() {
		for _, most := range append([]int{1, 2, 600}, wrong...) {
			if got := impl.CountSolutions(p, most); got != -1 {
				t.Fatalf("%v with the limit %d: %d", p, most, got)
			}
		}
	}
	for _, p := range []impl.Puzzle{
		{Size: 2, Given: []int{0, 0, 0, 0}},
		{Size: 2, Given: []int{1, 1, 0, 0}},
		{Size: 4, Given: make([]int, 16)},
	} {
		for _, most := range wrong {
			if got := impl.CountSolutions(p, most); got != -1 {
				t.Errorf("%v with the limit %d: %d", p, most, got)
			}
		}
	}
}

func TestP33ValidPuzzles(t *testing.T) {
	eachPuzzle(func(p impl.Puzzle, solutions [][]int) {
		if !impl.PuzzleValid(p) {
			t.Fatalf("%v is refused", p)
		}
		p.Rules = nil
		if !impl.PuzzleValid(p) {
			t.Fatalf("%v is refused without rules", p)
		}
	})
}

// What is given need not fit: a grid with values twice in a line is valid.
func TestP33EveryGrid(t *testing.T) {
	eachGrid(func(grid []int, size int) {
		if !impl.PuzzleValid(impl.Puzzle{Size: size, Given: grid}) {
			t.Fatalf("%v of size %d is refused", grid, size)
		}
	})
}

func TestP33UnknownKinds(t *testing.T) {
	eachPuzzle(func(p impl.Puzzle, solutions [][]int) {
		for k := range p.Rules {
			for _, kind := range []int{0, 6, -1, 1<<32 + 1, math.MinInt, math.MaxInt} {
				other := p
				other.Rules = slices.Clone(p.Rules)
				other.Rules[k].Kind = kind
				if impl.PuzzleValid(other) {
					t.Fatalf("%v is accepted", other)
				}
			}
		}
		if len(p.Rules) < 20 {
			p.Rules = append(slices.Clone(p.Rules), impl.Rule{})
		}
		if len(p.Rules) < 20 && impl.PuzzleValid(p) {
			t.Fatalf("%v is accepted", p)
		}
	})
}

func TestP33RulesOfOtherSizes(t *testing.T) {
	for _, r := range someRules() {
		for size := 2; size <= 4; size++ {
			p := impl.Puzzle{Size: size, Given: make([]int, size*size), Rules: []impl.Rule{r.rule}}
			if impl.PuzzleValid(p) != validRule(r.rule, size) {
				t.Errorf("%v is valid: %v", p, !validRule(r.rule, size))
			}
		}
	}
}

func TestP33NumbersOfRules(t *testing.T) {
	rules := []impl.Rule{{Kind: impl.RuleLess, Cells: []int{0, 1}}, {Kind: impl.RuleSum, Cells: []int{3}, Value: 1}}
	for many := range 60 {
		p := impl.Puzzle{Size: 2, Given: make([]int, 4), Rules: slices.Repeat(rules, 30)[:many]}
		if impl.PuzzleValid(p) != (many <= 20) {
			t.Errorf("with %d rules: valid %v", many, many > 20)
		}
	}
	if impl.PuzzleValid(impl.Puzzle{Size: 2, Given: make([]int, 4), Rules: slices.Repeat(rules, 1<<15)}) {
		t.Error("a puzzle with 65536 rules is accepted")
	}
}

func TestP33InvalidPuzzles(t *testing.T) {
	for _, p := range invalidPuzzles() {
		if impl.PuzzleValid(p) {
			t.Fatalf("%v is accepted", p)
		}
	}
}

// puzzleFits fills the cells of every rule in all ways.
func puzzleFits(p impl.Puzzle, grid []int) bool {
	for cell, value := range grid {
		if value != 0 && p.Given[cell] != 0 && value != p.Given[cell] {
			return false
		}
	}
	for _, rule := range p.Rules {
		if !canHold(waysOf(rule, p.Size), valuesAt(rule, grid)) {
			return false
		}
	}
	return repeatsNothing(grid, p.Size)
}

func TestP34EveryPuzzle(t *testing.T) {
	fitting, others := 0, 0
	eachPuzzleAndGrid(func(p impl.Puzzle, grid []int) {
		want := puzzleFits(p, grid)
		if impl.PuzzleFits(p, grid) != want {
			t.Fatalf("%v fits %v: %v", grid, p, !want)
		}
		if want {
			fitting++
		} else {
			others++
		}
	})
	if fitting < 1000 || others < 1000 {
		t.Errorf("too few grids that fit (%d) or do not fit (%d)", fitting, others)
	}
}

func TestP34SmallPuzzles(t *testing.T) {
	var grids [][]int
	everyGrid(2, func(grid []int, size int) { grids = append(grids, grid) })
	eachSmallPuzzle(func(p impl.Puzzle) {
		for _, grid := range grids {
			agrees := puzzleFits(impl.Puzzle{Size: 2, Given: p.Given}, grid)
			want := agrees && (len(p.Rules) == 0 || impl.RulePossible(p.Rules[0], grid, 2))
			if impl.PuzzleFits(p, grid) != want {
				t.Fatalf("%v fits %v: %v", grid, p, !want)
			}
		}
	})
}

func TestP34WithACellEmptyMore(t *testing.T) {
	eachPuzzleAndGrid(func(p impl.Puzzle, grid []int) {
		if !impl.PuzzleFits(p, grid) {
			return
		}
		for cell, value := range grid {
			grid[cell] = 0
			if !impl.PuzzleFits(p, grid) {
				t.Fatalf("%v does not fit %v, but it does with %d in cell %d", grid, p, value, cell)
			}
			grid[cell] = value
		}
	})
}

func TestP34WithoutRules(t *testing.T) {
	more := 0
	eachPuzzleAndGrid(func(p impl.Puzzle, grid []int) {
		fits := impl.PuzzleFits(p, grid)
		p.Rules = nil
		alone := impl.PuzzleFits(p, grid)
		if fits && !alone {
			t.Fatalf("%v does not fit %v", grid, p)
		}
		if alone && !fits {
			more++
		}
	})
	if more == 0 {
		t.Error("no grid does not fit because of the rules")
	}
}

func TestP34SomeGrids(t *testing.T) {
	rules := []impl.Rule{{Kind: impl.RuleLess, Cells: []int{1, 2}}, {Kind: impl.RuleSum, Cells: []int{4, 8}, Value: 5}}
	p := impl.Puzzle{Size: 3, Given: []int{1, 0, 0, 0, 0, 0, 0, 0, 0}, Rules: rules}
	for _, c := range []struct {
		grid []int
		want bool
	}{
		{[]int{0, 0, 0, 0, 0, 0, 0, 0, 0}, true},
		{[]int{1, 0, 0, 0, 0, 0, 0, 0, 0}, true},
		{[]int{2, 0, 0, 0, 0, 0, 0, 0, 0}, false},
		{[]int{0, 2, 0, 0, 0, 0, 0, 0, 0}, true},
		// No cell is less than 1, and none can follow 3.
		{[]int{0, 3, 0, 0, 0, 0, 0, 0, 0}, false},
		{[]int{0, 0, 1, 0, 0, 0, 0, 0, 0}, false},
		{[]int{1, 2, 3, 0, 0, 0, 0, 0, 0}, true},
		{[]int{1, 3, 2, 0, 0, 0, 0, 0, 0}, false},
		// Neither that 1 is given nor that 2 stands in the row matters to a rule.
		{[]int{0, 1, 0, 0, 0, 0, 0, 0, 0}, true},
		{[]int{0, 0, 2, 0, 0, 0, 0, 0, 0}, true},
		{[]int{1, 1, 0, 0, 0, 0, 0, 0, 0}, false},
		{[]int{1, 0, 0, 0, 0, 0, 1, 0, 0}, false},
		{[]int{0, 0, 0, 2, 2, 0, 0, 0, 0}, false},
		{[]int{0, 0, 0, 0, 1, 0, 0, 0, 0}, false},
		{[]int{0, 0, 0, 0, 3, 0, 0, 0, 2}, true},
		{[]int{0, 0, 0, 0, 3, 0, 0, 0, 3}, false},
		{[]int{1, 2, 3, 2, 3, 1, 3, 1, 2}, true},
		{[]int{1, 2, 3, 3, 1, 2, 2, 3, 1}, false},
	} {
		if got := impl.PuzzleFits(p, c.grid); got != c.want {
			t.Errorf("%v fits: %v", c.grid, got)
		}
	}
	// What is given may be wrong in itself; a grid that leaves it out fits all the same.
	wrong := impl.Puzzle{Size: 2, Given: []int{1, 1, 0, 0}, Rules: []impl.Rule{{Kind: impl.RuleLess, Cells: []int{0, 1}}}}
	if !impl.PuzzleFits(wrong, []int{0, 0, 1, 0}) || !impl.PuzzleFits(wrong, []int{1, 0, 0, 0}) || impl.PuzzleFits(wrong, []int{1, 1, 0, 0}) {
		t.Error("a puzzle with a value given twice in a row is treated otherwise")
	}
}

func TestP34InvalidArguments(t *testing.T) {
	for _, p := range invalidPuzzles() {
		for _, grid := range [][]int{nil, p.Given, make([]int, len(p.Given)), {1, 2, 2, 1}} {
			if impl.PuzzleFits(p, grid) {
				t.Fatalf("%v fits the invalid %v", grid, p)
			}
		}
	}
	for size := 2; size <= 4; size++ {
		p := impl.Puzzle{Size: size, Given: make([]int, size*size)}
		for _, g := range invalidGrids() {
			// A grid that is invalid for its own size may be valid for this one.
			if impl.PuzzleFits(p, g.grid) != (impl.GridValid(g.grid, size) && repeatsNothing(g.grid, size)) {
				t.Errorf("%v and size %d", g.grid, size)
			}
		}
		for other := 0; other <= 30; other++ {
			if impl.PuzzleFits(p, make([]int, other)) != (other == size*size) {
				t.Errorf("%d empty cells and size %d", other, size)
			}
		}
	}
}

func TestP35EveryPuzzle(t *testing.T) {
	lists := [5][][]int{2: solvedGrids(2), 3: solvedGrids(3), 4: solvedGrids(4)}
	eachPuzzle(func(p impl.Puzzle, solutions [][]int) {
		var found [][]int
		for _, grid := range lists[p.Size] {
			if impl.PuzzleSolved(p, grid) {
				found = append(found, grid)
			}
		}
		if !slices.EqualFunc(found, solutions, slices.Equal) {
			t.Fatalf("%v has the solutions %v, not %v", p, solutions, found)
		}
	})
}

func TestP35SolutionsAreSolved(t *testing.T) {
	eachPuzzleAndGrid(func(p impl.Puzzle, grid []int) {
		solved := impl.PuzzleSolved(p, grid)
		if solved != (impl.SquareSolved(grid, p.Size) && isSolution(p, grid)) {
			t.Fatalf("%v is a solution of %v: %v", grid, p, solved)
		}
		for _, rule := range p.Rules {
			if solved && !impl.RuleHolds(rule, grid, p.Size) {
				t.Fatalf("%v is a solution of %v, but %v does not hold", grid, p, rule)
			}
		}
	})
}

func TestP35EveryGrid(t *testing.T) {
	rules := []impl.Rule{{Kind: impl.RuleApart, Cells: []int{0, 3}, Value: 1}}
	eachGrid(func(grid []int, size int) {
		p := impl.Puzzle{Size: size, Given: make([]int, size*size)}
		full := !slices.Contains(grid, 0)
		if impl.PuzzleSolved(p, grid) != (full && repeatsNothing(grid, size)) {
			t.Fatalf("%v of size %d", grid, size)
		}
		p.Rules = rules
		if impl.PuzzleSolved(p, grid) != (full && repeatsNothing(grid, size) && isSolution(p, grid)) {
			t.Fatalf("%v of size %d with %v", grid, size, rules)
		}
	})
}

func TestP35SolutionsChanged(t *testing.T) {
	eachPuzzle(func(p impl.Puzzle, solutions [][]int) {
		for _, solution := range solutions[:min(3, len(solutions))] {
			visitChanged(solution, p.Size, func(grid []int, size int) {
				if impl.PuzzleSolved(p, grid) != slices.Equal(grid, solution) {
					t.Fatalf("%v is a solution of %v: %v", grid, p, !slices.Equal(grid, solution))
				}
			})
		}
	})
}

func TestP35SomeGrids(t *testing.T) {
	p := impl.Puzzle{Size: 3, Given: []int{1, 0, 0, 0, 0, 0, 0, 0, 0}, Rules: []impl.Rule{{Kind: impl.RuleLess, Cells: []int{1, 2}}}}
	for _, c := range []struct {
		grid []int
		want bool
	}{
		{[]int{1, 2, 3, 2, 3, 1, 3, 1, 2}, true},
		{[]int{1, 2, 3, 3, 1, 2, 2, 3, 1}, true},
		{[]int{1, 3, 2, 2, 1, 3, 3, 2, 1}, false},
		{[]int{2, 1, 3, 1, 3, 2, 3, 2, 1}, false},
		{[]int{1, 2, 3, 2, 3, 1, 3, 1, 0}, false},
		{[]int{1, 2, 3, 2, 3, 1, 3, 1, 1}, false},
		{[]int{1, 2, 3, 1, 2, 3, 1, 2, 3}, false},
		{[]int{1, 0, 0, 0, 0, 0, 0, 0, 0}, false},
		{[]int{0, 0, 0, 0, 0, 0, 0, 0, 0}, false},
	} {
		if got := impl.PuzzleSolved(p, c.grid); got != c.want {
			t.Errorf("%v is a solution: %v", c.grid, got)
		}
	}
}

func TestP35InvalidArguments(t *testing.T) {
	for _, p := range invalidPuzzles() {
		for _, grid := range append(gridsFor(p.Size), p.Given, impl.SquareOf(p.Size), []int{1, 2, 2, 1}) {
			if impl.PuzzleSolved(p, grid) {
				t.Fatalf("%v is a solution of the invalid %v", grid, p)
			}
		}
	}
	for size := 2; size <= 4; size++ {
		p := impl.Puzzle{Size: size, Given: make([]int, size*size)}
		for _, g := range invalidGrids() {
			if want := g.size != size && impl.SquareSolved(g.grid, size); impl.PuzzleSolved(p, g.grid) != want {
				t.Errorf("%v is a solution of size %d: %v", g.grid, size, !want)
			}
		}
		for other := 2; other <= 4; other++ {
			if impl.PuzzleSolved(p, impl.SquareOf(other)) != (other == size) {
				t.Errorf("a solved grid of size %d and the size %d", other, size)
			}
		}
	}
}

func TestP36EveryPuzzle(t *testing.T) {
	eachPuzzle(func(p impl.Puzzle, solutions [][]int) {
		checkFirst(t, p, solutions)
	})
	solved := solvedGrids(2)
	eachSmallPuzzle(func(p impl.Puzzle) {
		checkFirst(t, p, solutionsOf(p, solved))
	})
}

func checkFirst(t *testing.T, p impl.Puzzle, solutions [][]int) {
	t.Helper()
	first, ok := impl.SolveFirst(p)
	if ok != (len(solutions) > 0) || ok != (impl.CountSolutions(p, 600) != 0) || ok != (impl.CountSolutions(p, 1) != 0) {
		t.Fatalf("%v has %d solutions, but first one: %v", p, len(solutions), ok)
	}
	if !ok && len(first) != 0 || ok && !slices.Equal(first, solutions[0]) {
		t.Fatalf("%v has the solutions %v, but the first one is %v", p, solutions, first)
	}
}

// The solved grids come from the program, and not from the tests.
func TestP36NoSolutionBefore(t *testing.T) {
	lists := [5][][]int{2: numberedGrids(2), 3: numberedGrids(3), 4: numberedGrids(4)}
	eachPuzzle(func(p impl.Puzzle, solutions [][]int) {
		first, ok := impl.SolveFirst(p)
		if ok != impl.PuzzleSolved(p, first) {
			t.Fatalf("%v is no solution of %v", first, p)
		}
		for _, grid := range lists[p.Size] {
			if slices.Equal(grid, first) {
				return
			}
			if impl.PuzzleSolved(p, grid) {
				t.Fatalf("%v is a solution of %v, before %v", grid, p, first)
			}
		}
		if ok {
			t.Fatalf("%v has the first solution %v, which is no solved grid", p, first)
		}
	})
}

// numberedGrids lists all grids of SquareNumber.
func numberedGrids(size int) [][]int {
	var grids [][]int
	for grid := impl.SquareNumber(size, 0); grid != nil; grid = impl.SquareNumber(size, len(grids)) {
		grids = append(grids, grid)
	}
	return grids
}

func TestP36EveryGridWithoutRules(t *testing.T) {
	for size := 2; size <= 3; size++ {
		solved := solvedGrids(size)
		everyGrid(size, func(given []int, size int) {
			p := impl.Puzzle{Size: size, Given: given}
			checkFirst(t, p, solutionsOf(p, solved))
		})
	}
}

func TestP36SomePuzzles(t *testing.T) {
	for _, c := range []struct {
		p    impl.Puzzle
		want []int
	}{
		{impl.Puzzle{Size: 2, Given: []int{1, 0, 0, 0}}, []int{1, 2, 2, 1}},
		{impl.Puzzle{Size: 2, Given: []int{0, 0, 0, 0}}, []int{1, 2, 2, 1}},
		{impl.Puzzle{Size: 2, Given: []int{0, 0, 0, 2}}, []int{2, 1, 1, 2}},
		{impl.Puzzle{Size: 2, Given: []int{1, 0, 0, 2}}, nil},
		{impl.Puzzle{Size: 3, Given: make([]int, 9)}, []int{1, 2, 3, 2, 3, 1, 3, 1, 2}},
		{impl.Puzzle{Size: 3, Given: []int{0, 0, 0, 0, 0, 0, 0, 0, 1}}, []int{1, 2, 3, 3, 1, 2, 2, 3, 1}},
		{impl.Puzzle{Size: 3, Given: make([]int, 9), Rules: []impl.Rule{{Kind: impl.RuleLess, Cells: []int{1, 0}}}}, []int{2, 1, 3, 1, 3, 2, 3, 2, 1}},
		{impl.Puzzle{Size: 3, Given: make([]int, 9), Rules: []impl.Rule{{Kind: impl.RuleApart, Cells: []int{8, 0}}}}, []int{1, 2, 3, 3, 1, 2, 2, 3, 1}},
		{impl.Puzzle{Size: 3, Given: make([]int, 9), Rules: []impl.Rule{{Kind: impl.RuleDifferent, Cells: []int{0, 4, 8, 1}}}}, nil},
		{impl.Puzzle{Size: 4, Given: make([]int, 16)}, []int{1, 2, 3, 4, 2, 1, 4, 3, 3, 4, 1, 2, 4, 3, 2, 1}},
		{impl.Puzzle{Size: 4, Given: make([]int, 16), Rules: []impl.Rule{{Kind: impl.RuleProduct, Cells: []int{0, 5, 10, 15}, Value: 256}}}, []int{4, 1, 2, 3, 1, 4, 3, 2, 2, 3, 4, 1, 3, 2, 1, 4}},
		{impl.Puzzle{Size: 4, Given: make([]int, 16), Rules: []impl.Rule{{Kind: impl.RuleProduct, Cells: []int{0, 5, 10, 15}, Value: 255}}}, nil},
	} {
		first, ok := impl.SolveFirst(c.p)
		if ok != (c.want != nil) || !slices.Equal(first, c.want) {
			t.Errorf("%v: %v, %v", c.p, first, ok)
		}
	}
}

func TestP36InvalidArguments(t *testing.T) {
	for _, p := range invalidPuzzles() {
		if first, ok := impl.SolveFirst(p); ok || len(first) != 0 {
			t.Fatalf("%v is invalid, and has the first solution %v", p, first)
		}
	}
}

func TestP116WithoutRulesAndGiven(t *testing.T) {
	byRules, byGiven := 0, 0
	eachPuzzle(func(p impl.Puzzle, solutions [][]int) {
		many := impl.CountSolutions(p, 600)
		without := impl.CountSolutions(impl.Puzzle{Size: p.Size, Given: p.Given}, 600)
		free := impl.CountSolutions(impl.Puzzle{Size: p.Size, Given: make([]int, len(p.Given)), Rules: p.Rules}, 600)
		if without < many || free < many {
			t.Fatalf("%v has %d solutions, %d without rules, %d without what is given", p, many, without, free)
		}
		byRules, byGiven = byRules+without-many, byGiven+free-many
	})
	if byRules == 0 || byGiven == 0 {
		t.Errorf("%d solutions are taken away by rules and %d by what is given", byRules, byGiven)
	}
}

// Rules and given values are taken away one by one.
func TestP116OneLess(t *testing.T) {
	eachPuzzle(func(p impl.Puzzle, solutions [][]int) {
		many := impl.CountSolutions(p, 600)
		for k := range p.Rules {
			less := p
			less.Rules = slices.Delete(slices.Clone(p.Rules), k, k+1)
			if got := impl.CountSolutions(less, 600); got < many {
				t.Fatalf("%v has %d solutions, and %d without rule %d", p, many, got, k)
			}
		}
		for cell := range p.Given {
			less := p
			less.Given = slices.Clone(p.Given)
			less.Given[cell] = 0
			if got := impl.CountSolutions(less, 600); got < many {
				t.Fatalf("%v has %d solutions, and %d without cell %d", p, many, got, cell)
			}
		}
	})
}

func TestP116SomePuzzles(t *testing.T) {
	p := impl.Puzzle{Size: 3, Given: []int{1, 0, 0, 0, 0, 0, 0, 0, 0}, Rules: []impl.Rule{{Kind: impl.RuleLess, Cells: []int{1, 2}}}}
	rules, empty := p.Rules, make([]int, 9)
	for _, c := range []struct {
		p    impl.Puzzle
		want int
	}{
		{p, 2},
		{impl.Puzzle{Size: 3, Given: p.Given}, 4},
		{impl.Puzzle{Size: 3, Given: empty, Rules: rules}, 6},
		{impl.Puzzle{Size: 3, Given: empty}, 12},
	} {
		if got := impl.CountSolutions(c.p, 600); got != c.want {
			t.Errorf("%v: %d solutions instead of %d", c.p, got, c.want)
		}
	}
}

func TestP116InvalidArguments(t *testing.T) {
	for _, p := range invalidPuzzles() {
		if impl.GridValid(p.Given, p.Size) {
			continue
		}
		if got := impl.CountSolutions(impl.Puzzle{Size: p.Size, Given: p.Given}, 600); got != -1 {
			t.Errorf("%v without rules has %d solutions", p, got)
		}
	}
	wrong := []impl.Rule{{Kind: impl.RuleLess, Cells: []int{0, 4}}}
	if got := impl.CountSolutions(impl.Puzzle{Size: 2, Given: make([]int, 4), Rules: wrong}, 600); got != -1 {
		t.Errorf("without what is given, but with an invalid rule, there are %d solutions", got)
	}
}

// puzzleWithSpare returns the same puzzle in memory that goes on behind all its parts, to show whether a call writes there.
func puzzleWithSpare(p impl.Puzzle) impl.Puzzle {
	kept := impl.Puzzle{Size: p.Size, Given: withSpare(p.Given), Rules: append(slices.Clone(p.Rules), impl.Rule{Kind: 77})[:len(p.Rules)]}
	for k := range kept.Rules {
		kept.Rules[k].Cells = withSpare(p.Rules[k].Cells)
	}
	return kept
}

// checkUntouched fails if a puzzle of puzzleWithSpare is not what it was made of any more.
func checkUntouched(t *testing.T, kept impl.Puzzle, p impl.Puzzle) {
	t.Helper()
	if !slices.Equal(kept.Given, p.Given) || spareTouched(kept.Given) {
		t.Fatalf("what is given in %v is written to", p)
	}
	if spare := kept.Rules[:len(p.Rules)+1][len(p.Rules)]; spare.Kind != 77 {
		t.Fatalf("the memory behind the rules of %v is written to", p)
	}
	for k, rule := range kept.Rules {
		same := rule.Kind == p.Rules[k].Kind && rule.Value == p.Rules[k].Value && slices.Equal(rule.Cells, p.Rules[k].Cells)
		if !same || spareTouched(rule.Cells) {
			t.Fatalf("rule %d of %v is written to", k, p)
		}
	}
}

func TestPuzzleResultsAreNew(t *testing.T) {
	eachPuzzle(func(p impl.Puzzle, solutions [][]int) {
		kept := puzzleWithSpare(p)
		checkPuzzleResults(t, kept)
		checkUntouched(t, kept, p)
	})
}

func checkPuzzleResults(t *testing.T, p impl.Puzzle) {
	t.Helper()
	with := func(given []int) impl.Puzzle {
		return impl.Puzzle{Size: p.Size, Given: given, Rules: p.Rules}
	}
	checkFresh(t, "SolveFirst", p.Given, func(given []int) []int {
		first, _ := impl.SolveFirst(with(given))
		return first
	})
	checkFresh(t, "CountSolutions", p.Given, func(given []int) []int { return []int{impl.CountSolutions(with(given), 3)} })
	checkFresh(t, "PuzzleValid", p.Given, func(given []int) []int { return truth(impl.PuzzleValid(with(given))) })
	checkFresh(t, "PuzzleFits", p.Given, func(given []int) []int { return truth(impl.PuzzleFits(with(given), p.Given)) })
	checkFresh(t, "PuzzleFits", p.Given, func(grid []int) []int { return truth(impl.PuzzleFits(p, grid)) })
	checkFresh(t, "PuzzleSolved", p.Given, func(grid []int) []int { return truth(impl.PuzzleSolved(p, grid)) })
}

// A puzzle in which everything is given has this grid as its solution, in memory of its own.
func TestFirstSolutionOfAFullPuzzleIsNew(t *testing.T) {
	for size := 2; size <= 4; size++ {
		checkFresh(t, "SolveFirst", impl.SquareOf(size), func(given []int) []int {
			first, _ := impl.SolveFirst(impl.Puzzle{Size: size, Given: given})
			return first
		})
	}
}
