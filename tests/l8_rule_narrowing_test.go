package tests

import (
	"math"
	"slices"
	"testing"

	"loop.example/gridpuzzles/impl"
)

// puzzleWithWays is a puzzle with its solutions and with the ways in which each of its rules holds.
type puzzleWithWays struct {
	impl.Puzzle
	solutions [][]int
	ways      [][][]int
}

func withWays(p impl.Puzzle, solutions [][]int) puzzleWithWays {
	known := puzzleWithWays{Puzzle: p, solutions: solutions}
	for _, rule := range p.Rules {
		known.ways = append(known.ways, waysOf(rule, p.Size))
	}
	return known
}

// eachPuzzleAndMasks visits the puzzles of eachPuzzle with the masks with which solving begins, with masks around some of their solutions, and with any masks.
func eachPuzzleAndMasks(visit func(p puzzleWithWays, masks []int)) {
	next := fixedNumbers()
	turn := 0
	eachPuzzle(func(p impl.Puzzle, solutions [][]int) {
		turn++
		known := withWays(p, solutions)
		visit(known, impl.StartMasks(p))
		around := make([]int, p.Size*p.Size)
		for range min(turn%3, len(solutions)) {
			addGrid(around, solutions[next(uint32(len(solutions)))])
		}
		addValues(around, p.Size, turn%17, next)
		visit(known, around)
		others := make([]int, p.Size*p.Size)
		addValues(others, p.Size, 8+turn%9, next)
		visit(known, others)
	})
}

// eachSmallPuzzleAndMasks visits the puzzles of eachSmallPuzzle, each with another one of all masks of size 2 besides those with which solving begins.
func eachSmallPuzzleAndMasks(visit func(p puzzleWithWays, masks []int)) {
	var all [][]int
	eachMasks(func(masks []int, size int) {
		if size == 2 {
			all = append(all, masks)
		}
	})
	solved := solvedGrids(2)
	turn := 0
	eachSmallPuzzle(func(p impl.Puzzle) {
		turn++
		known := withWays(p, solutionsOf(p, solved))
		visit(known, impl.StartMasks(p))
		visit(known, slices.Clone(all[turn*41%len(all)]))
	})
}

// eachPuzzleAndPairMasks visits the masks of eachPairMasks, each with another puzzle with two rules.
func eachPuzzleAndPairMasks(visit func(p puzzleWithWays, masks []int)) {
	next := fixedNumbers()
	lists := [5][][]int{3: solvedGrids(3), 4: solvedGrids(4)}
	eachPairMasks(func(masks []int, size int) {
		solved := lists[size]
		p := puzzleFor(solved[next(uint32(len(solved)))], size, 2, next)
		visit(withWays(p, solutionsOf(p, solved)), masks)
	})
}

// rulesNarrowed asks the ways of every rule, one rule after the other.
func rulesNarrowed(p puzzleWithWays, masks []int) []int {
	narrowed := slices.Clone(masks)
	for number, rule := range p.Rules {
		united := masksOfWays(p.ways[number], valuesAt(rule, narrowed))
		for k, cell := range rule.Cells {
			narrowed[cell] = united[k]
		}
	}
	return narrowed
}

// narrowedBy makes a round of a technique without the program.
func narrowedBy(p puzzleWithWays, masks []int, technique int) []int {
	switch technique {
	case 1:
		return singlesNarrowed(masks, p.Size)
	case 2:
		return hiddenNarrowed(masks, p.Size)
	case 3:
		return pairsNarrowed(masks, p.Size)
	}
	return rulesNarrowed(p, masks)
}

// roundsByAll lists the techniques of all rounds of NarrowAll, and the masks before the first round and after every one: after a change it begins again with the first technique.
func roundsByAll(p puzzleWithWays, masks []int, most int) ([]int, [][]int) {
	var techniques []int
	seen := [][]int{masks}
	technique := 1
	for technique <= most {
		narrowed := narrowedBy(p, masks, technique)
		if slices.Equal(narrowed, masks) {
			technique++
			continue
		}
		techniques, seen = append(techniques, technique), append(seen, narrowed)
		masks, technique = narrowed, 1
	}
	return techniques, seen
}

// narrowedByAll returns the masks after all rounds of NarrowAll, and their techniques.
func narrowedByAll(p puzzleWithWays, masks []int, most int) ([]int, []int) {
	techniques, seen := roundsByAll(p, masks, most)
	return seen[len(seen)-1], techniques
}

// keepsSolutions tells whether no solution of a puzzle that was in masks is lost.
func keepsSolutions(p puzzleWithWays, masks []int, narrowed []int) bool {
	for _, solution := range p.solutions {
		if gridInMasks(masks, solution) && !gridInMasks(narrowed, solution) {
			return false
		}
	}
	return true
}

// masksFor returns valid masks for the sizes of grids, and lists of masks for all other sizes.
func masksFor(size int) [][]int {
	lists := gridsFor(size)
	for _, masks := range lists {
		for cell, value := range masks {
			masks[cell] = power(value) / 2 * 2
		}
	}
	if size >= 2 && size <= 4 {
		lists = append(lists, sameMaskEverywhere(size, power(size+1)-2))
	}
	return lists
}

// eachInvalid visits invalid puzzles with valid and other masks, and valid puzzles with invalid masks or with those of another size.
func eachInvalid(visit func(p impl.Puzzle, masks []int)) {
	for _, p := range invalidPuzzles() {
		for _, masks := range append(masksFor(p.Size), nil, impl.StartMasks(p)) {
			visit(p, masks)
		}
	}
	less := []impl.Rule{{Kind: impl.RuleLess, Cells: []int{0, 1}}}
	for size := 2; size <= 4; size++ {
		for _, given := range [][]int{make([]int, size*size), impl.SquareOf(size)} {
			for _, rules := range [][]impl.Rule{nil, less} {
				p := impl.Puzzle{Size: size, Given: given, Rules: rules}
				for _, masks := range masksInvalidFor(size) {
					visit(p, masks)
				}
			}
		}
	}
}

// masksInvalidFor lists masks that are not valid for a size, among them the valid ones of other sizes.
func masksInvalidFor(size int) [][]int {
	var lists [][]int
	for _, m := range invalidMasks() {
		// Masks that are invalid for their own size may be valid for this one.
		if !impl.MasksValid(m.masks, size) {
			lists = append(lists, m.masks)
		}
	}
	for other := 2; other <= 4; other++ {
		if other != size {
			lists = append(lists, masksFor(other)...)
		}
	}
	for cell := range size * size {
		for _, wrong := range []int{1, power(size+1) - 1, power(size + 1), -2, math.MinInt} {
			masks := sameMaskEverywhere(size, 6)
			masks[cell] = wrong
			lists = append(lists, masks)
		}
	}
	return append(lists, sameMaskEverywhere(size, 6)[1:], append(sameMaskEverywhere(size, 6), 6))
}

var wrongTechniques = []int{0, -1, 5, 6, 1 << 32, 1<<32 + 1, 1<<32 + 4, math.MinInt, math.MinInt + 1, math.MaxInt}

func TestP5IsSound(t *testing.T) {
	kept, changed := 0, 0
	check := func(p puzzleWithWays, masks []int) {
		narrowed := impl.NarrowRules(p.Puzzle, masks)
		if !impl.MasksValid(narrowed, p.Size) || !masksWithin(narrowed, masks) {
			t.Fatalf("%v: %v become %v", p.Puzzle, masks, narrowed)
		}
		if !keepsSolutions(p, masks, narrowed) {
			t.Fatalf("%v: %v become %v and lose a solution", p.Puzzle, masks, narrowed)
		}
		if !slices.Equal(masks, narrowed) {
			changed++
			kept += len(p.solutions)
		}
	}
	eachPuzzleAndMasks(check)
	eachSmallPuzzleAndMasks(check)
	if kept < 1000 || changed < 1000 {
		t.Errorf("too few solutions (%d) where masks change (%d)", kept, changed)
	}
}

func TestP5EveryPuzzle(t *testing.T) {
	check := func(p puzzleWithWays, masks []int) {
		if narrowed := impl.NarrowRules(p.Puzzle, masks); !slices.Equal(narrowed, rulesNarrowed(p, masks)) {
			t.Fatalf("%v: %v become %v", p.Puzzle, masks, narrowed)
		}
	}
	eachPuzzleAndMasks(check)
	eachSmallPuzzleAndMasks(check)
}

// The masks are those of RuleMasks of the program, with the masks that there are then.
func TestP5MasksOfRules(t *testing.T) {
	eachPuzzleAndMasks(func(p puzzleWithWays, masks []int) {
		want := slices.Clone(masks)
		for _, rule := range p.Rules {
			for k, mask := range impl.RuleMasks(rule, slices.Clone(want), p.Size) {
				want[rule.Cells[k]] = mask
			}
		}
		if narrowed := impl.NarrowRules(p.Puzzle, masks); !slices.Equal(narrowed, want) {
			t.Fatalf("%v: %v become %v", p.Puzzle, masks, narrowed)
		}
	})
}

func TestP5EveryRule(t *testing.T) {
	eachRuleAndMasks(func(r sizedRule, ways [][]int, masks []int) {
		p := puzzleWithWays{Puzzle: impl.Puzzle{Size: r.size, Given: make([]int, r.size*r.size), Rules: []impl.Rule{r.rule}}, ways: [][][]int{ways}}
		if narrowed := impl.NarrowRules(p.Puzzle, masks); !slices.Equal(narrowed, rulesNarrowed(p, masks)) {
			t.Fatalf("%v of size %d: %v become %v", r.rule, r.size, masks, narrowed)
		}
	})
}

func TestP5WithoutRules(t *testing.T) {
	eachTechniqueMasks(func(masks []int, size int) {
		for _, given := range [][]int{make([]int, size*size), impl.SquareOf(size)} {
			p := impl.Puzzle{Size: size, Given: given, Rules: []impl.Rule{}}
			if narrowed := impl.NarrowRules(p, masks); !slices.Equal(narrowed, masks) {
				t.Fatalf("%v of size %d become %v without rules", masks, size, narrowed)
			}
		}
	})
	eachPuzzleAndMasks(func(p puzzleWithWays, masks []int) {
		p.Rules = nil
		if narrowed := impl.NarrowRules(p.Puzzle, masks); !slices.Equal(narrowed, masks) {
			t.Fatalf("%v: %v become %v", p.Puzzle, masks, narrowed)
		}
	})
}

// What is given matters to StartMasks alone.
func TestP5GivenDoesNotMatter(t *testing.T) {
	eachPuzzleAndMasks(func(p puzzleWithWays, masks []int) {
		other := p.Puzzle
		other.Given = make([]int, len(p.Given))
		if !slices.Equal(impl.NarrowRules(p.Puzzle, masks), impl.NarrowRules(other, masks)) {
			t.Fatalf("%v: %v become something else without what is given", p.Puzzle, masks)
		}
	})
}

// A later rule sees what an earlier one takes away, and the earlier one does not see what a later one does.
func TestP5RulesInOrder(t *testing.T) {
	sum := impl.Rule{Kind: impl.RuleSum, Cells: []int{0, 1}, Value: 3}
	less := impl.Rule{Kind: impl.RuleLess, Cells: []int{1, 4}}
	for _, c := range []struct {
		rules []impl.Rule
		want  []int
	}{
		{[]impl.Rule{sum, less}, []int{6, 6, 14, 14, 12, 14, 14, 14, 14}},
		{[]impl.Rule{less, sum}, []int{6, 6, 14, 14, 12, 14, 14, 14, 14}},
		{[]impl.Rule{{Kind: impl.RuleSum, Cells: []int{0}, Value: 2}, sum}, []int{4, 2, 14, 14, 14, 14, 14, 14, 14}},
		{[]impl.Rule{sum, {Kind: impl.RuleSum, Cells: []int{0}, Value: 2}}, []int{4, 6, 14, 14, 14, 14, 14, 14, 14}},
		{[]impl.Rule{less, less}, []int{14, 6, 14, 14, 12, 14, 14, 14, 14}},
		{[]impl.Rule{less, {Kind: impl.RuleLess, Cells: []int{4, 7}}}, []int{14, 6, 14, 14, 4, 14, 14, 8, 14}},
		{[]impl.Rule{{Kind: impl.RuleLess, Cells: []int{4, 7}}, less}, []int{14, 2, 14, 14, 4, 14, 14, 12, 14}},
		// Rules that exclude each other take everything from their cells.
		{[]impl.Rule{less, {Kind: impl.RuleLess, Cells: []int{4, 1}}}, []int{14, 0, 14, 14, 0, 14, 14, 14, 14}},
	} {
		p := impl.Puzzle{Size: 3, Given: make([]int, 9), Rules: c.rules}
		if narrowed := impl.NarrowRules(p, sameMaskEverywhere(3, 14)); !slices.Equal(narrowed, c.want) {
			t.Errorf("%v: all values become %v", c.rules, narrowed)
		}
	}
	matters := 0
	eachPuzzleAndMasks(func(p puzzleWithWays, masks []int) {
		reversed := p.Puzzle
		reversed.Rules = slices.Clone(p.Rules)
		slices.Reverse(reversed.Rules)
		if !slices.Equal(impl.NarrowRules(p.Puzzle, masks), impl.NarrowRules(reversed, masks)) {
			matters++
		}
	})
	if matters < 100 {
		t.Errorf("too few puzzles for which the order of the rules matters: %d", matters)
	}
}

func TestP5SomeMasks(t *testing.T) {
	all := sameMaskEverywhere(4, 30)
	for _, c := range []struct {
		rule  impl.Rule
		masks []int
		cells map[int]int
	}{
		{impl.Rule{Kind: impl.RuleDifferent, Cells: []int{0, 5, 10, 15}}, all, nil},
		{impl.Rule{Kind: impl.RuleSum, Cells: []int{0, 1}, Value: 8}, all, map[int]int{0: 16, 1: 16}},
		{impl.Rule{Kind: impl.RuleSum, Cells: []int{15}, Value: 3}, all, map[int]int{15: 8}},
		{impl.Rule{Kind: impl.RuleSum, Cells: []int{0, 1, 2, 3}, Value: 5}, all, map[int]int{0: 6, 1: 6, 2: 6, 3: 6}},
		{impl.Rule{Kind: impl.RuleSum, Cells: []int{0, 1, 2, 3}, Value: 256}, all, map[int]int{0: 0, 1: 0, 2: 0, 3: 0}},
		{impl.Rule{Kind: impl.RuleProduct, Cells: []int{12, 8, 4, 0}, Value: 256}, all, map[int]int{0: 16, 4: 16, 8: 16, 12: 16}},
		{impl.Rule{Kind: impl.RuleProduct, Cells: []int{7, 2}, Value: 4}, all, map[int]int{2: 22, 7: 22}},
		{impl.Rule{Kind: impl.RuleProduct, Cells: []int{7, 2, 3}, Value: 27}, all, map[int]int{2: 8, 3: 8, 7: 8}},
		{impl.Rule{Kind: impl.RuleLess, Cells: []int{1, 0}}, all, map[int]int{0: 28, 1: 14}},
		{impl.Rule{Kind: impl.RuleApart, Cells: []int{14, 3}, Value: 3}, all, map[int]int{3: 18, 14: 18}},
		{impl.Rule{Kind: impl.RuleApart, Cells: []int{0, 1}}, all, nil},
		// A rule knows nothing of lines: two cells of a row may become equal.
		{impl.Rule{Kind: impl.RuleSum, Cells: []int{0, 1}, Value: 2}, all, map[int]int{0: 2, 1: 2}},
		{impl.Rule{Kind: impl.RuleApart, Cells: []int{0, 1}}, sameMaskEverywhere(4, 8), nil},
		{impl.Rule{Kind: impl.RuleDifferent, Cells: []int{0, 15}}, sameMaskEverywhere(4, 8), map[int]int{0: 0, 15: 0}},
		{impl.Rule{Kind: impl.RuleDifferent, Cells: []int{0, 6, 15}}, sameMaskEverywhere(4, 6), map[int]int{0: 0, 6: 0, 15: 0}},
		{impl.Rule{Kind: impl.RuleLess, Cells: []int{0, 1}}, make([]int, 16), nil},
	} {
		want := slices.Clone(c.masks)
		for cell, mask := range c.cells {
			want[cell] = mask
		}
		p := impl.Puzzle{Size: 4, Given: make([]int, 16), Rules: []impl.Rule{c.rule}}
		if narrowed := impl.NarrowRules(p, c.masks); !slices.Equal(narrowed, want) {
			t.Errorf("%v: %v become %v", c.rule, c.masks, narrowed)
		}
	}
}

func TestP5InvalidArguments(t *testing.T) {
	eachInvalid(func(p impl.Puzzle, masks []int) {
		if narrowed := impl.NarrowRules(p, masks); len(narrowed) != 0 {
			t.Fatalf("%v: %v become %v", p, masks, narrowed)
		}
	})
}

func TestP6ComesToAnEnd(t *testing.T) {
	kept, changed := 0, 0
	check := func(p puzzleWithWays, masks []int) {
		for most := 1; most <= 4; most++ {
			narrowed, rounds := impl.NarrowAll(p.Puzzle, masks, most)
			if !impl.MasksValid(narrowed, p.Size) || !masksWithin(narrowed, masks) || !keepsSolutions(p, masks, narrowed) {
				t.Fatalf("%v: %v become %v with %d techniques", p.Puzzle, masks, narrowed, most)
			}
			checkEnded(t, p.Puzzle, narrowed, most)
			if rounds < 0 || rounds > p.Size*p.Size*p.Size || (rounds == 0) != slices.Equal(masks, narrowed) {
				t.Fatalf("%v: %v become %v with %d techniques in %d rounds", p.Puzzle, masks, narrowed, most, rounds)
			}
			if rounds > 0 {
				changed++
				kept += len(p.solutions)
			}
		}
	}
	eachPuzzleAndMasks(check)
	eachSmallPuzzleAndMasks(check)
	eachPuzzleAndPairMasks(check)
	if kept < 1000 || changed < 1000 {
		t.Errorf("too few solutions (%d) where masks change (%d)", kept, changed)
	}
}

// checkEnded fails if one of the techniques, or all of them once more, change something.
func checkEnded(t *testing.T, p impl.Puzzle, masks []int, most int) {
	t.Helper()
	for technique := 1; technique <= most; technique++ {
		if narrowed := impl.NarrowBy(p, masks, technique); !slices.Equal(narrowed, masks) {
			t.Fatalf("%v: after %d techniques %v become %v with technique %d", p, most, masks, narrowed, technique)
		}
	}
	for fewer := 1; fewer <= most; fewer++ {
		again, rounds := impl.NarrowAll(p, masks, fewer)
		if !slices.Equal(again, masks) || rounds != 0 {
			t.Fatalf("%v: after %d techniques %v become %v with %d in %d rounds", p, most, masks, again, fewer, rounds)
		}
	}
}

func TestP6EveryRound(t *testing.T) {
	var used [5]int
	back := 0
	check := func(p puzzleWithWays, masks []int) {
		for most := 1; most <= 4; most++ {
			want, techniques := narrowedByAll(p, masks, most)
			narrowed, rounds := impl.NarrowAll(p.Puzzle, masks, most)
			if !slices.Equal(narrowed, want) || rounds != len(techniques) {
				t.Fatalf("%v: %v become %v with %d techniques in %d rounds, not %v in %v", p.Puzzle, masks, narrowed, most, rounds, want, techniques)
			}
			for k, technique := range techniques {
				used[technique]++
				if k > 0 && technique < techniques[k-1] {
					back++
				}
			}
		}
	}
	eachPuzzleAndMasks(check)
	eachSmallPuzzleAndMasks(check)
	eachPuzzleAndPairMasks(check)
	for technique := 1; technique <= 4; technique++ {
		if used[technique] < 1000 {
			t.Errorf("too few rounds of technique %d: %d", technique, used[technique])
		}
	}
	if back < 1000 {
		t.Errorf("too few rounds after which an earlier technique goes on: %d", back)
	}
}

func TestP6EveryMasksWithoutRules(t *testing.T) {
	visited := 0
	eachTechniqueMasks(func(masks []int, size int) {
		visited++
		if visited%3 != 0 {
			return
		}
		p := puzzleWithWays{Puzzle: impl.Puzzle{Size: size, Given: make([]int, size*size)}}
		want, techniques := narrowedByAll(p, masks, 4)
		narrowed, rounds := impl.NarrowAll(p.Puzzle, masks, 4)
		if !slices.Equal(narrowed, want) || rounds != len(techniques) {
			t.Fatalf("%v of size %d become %v in %d rounds", masks, size, narrowed, rounds)
		}
		three, same := impl.NarrowAll(p.Puzzle, masks, 3)
		if !slices.Equal(narrowed, three) || same != rounds {
			t.Fatalf("%v of size %d become %v without the fourth technique, in %d rounds", masks, size, three, same)
		}
	})
}

func TestP6SomePuzzles(t *testing.T) {
	empty := make([]int, 9)
	sum := impl.Puzzle{Size: 3, Given: empty, Rules: []impl.Rule{{Kind: impl.RuleSum, Cells: []int{0, 1}, Value: 3}}}
	hidden := []int{14, 12, 12, 12, 14, 14, 12, 14, 14}
	pair := []int{6, 6, 14, 14, 14, 14, 14, 14, 14}
	never := impl.Puzzle{Size: 2, Given: make([]int, 4), Rules: []impl.Rule{{Kind: impl.RuleSum, Cells: []int{3}, Value: 4}}}
	for _, c := range []struct {
		p        impl.Puzzle
		masks    []int
		from, to int
		want     []int
		rounds   int
	}{
		{impl.Puzzle{Size: 2, Given: []int{1, 0, 0, 0}}, []int{2, 6, 6, 6}, 1, 4, []int{2, 4, 4, 2}, 2},
		{impl.Puzzle{Size: 2, Given: []int{0, 0, 0, 0}}, []int{6, 6, 6, 6}, 1, 4, []int{6, 6, 6, 6}, 0},
		{impl.Puzzle{Size: 2, Given: []int{0, 0, 0, 0}}, []int{0, 0, 0, 0}, 1, 4, []int{0, 0, 0, 0}, 0},
		// What is given is not looked at.
		{impl.Puzzle{Size: 2, Given: []int{1, 2, 2, 1}}, []int{6, 6, 6, 6}, 1, 4, []int{6, 6, 6, 6}, 0},
		{impl.Puzzle{Size: 2, Given: []int{1, 2, 2, 1}}, []int{4, 6, 6, 6}, 1, 4, []int{4, 2, 2, 4}, 2},
		// The rule, then the pair that it makes, then the single that the pair makes.
		{sum, sameMaskEverywhere(3, 14), 1, 3, sameMaskEverywhere(3, 14), 0},
		{sum, sameMaskEverywhere(3, 14), 4, 4, []int{6, 6, 8, 14, 14, 6, 14, 14, 6}, 3},
		{sum, pair, 1, 1, pair, 0},
		// A value hidden in its row, before the pair is looked at.
		{sum, pair, 2, 4, []int{6, 6, 8, 14, 14, 6, 14, 14, 6}, 2},
		{impl.Puzzle{Size: 3, Given: empty}, hidden, 1, 1, hidden, 0},
		{impl.Puzzle{Size: 3, Given: empty}, hidden, 2, 4, []int{2, 12, 12, 12, 14, 14, 12, 14, 14}, 1},
		// Techniques go on after a mask has lost its last value.
		{impl.Puzzle{Size: 2, Given: []int{1, 1, 0, 0}}, []int{2, 2, 6, 6}, 1, 4, []int{0, 0, 0, 0}, 2},
		{impl.Puzzle{Size: 3, Given: empty}, []int{0, 14, 14, 14, 2, 14, 14, 14, 14}, 1, 1, []int{0, 12, 14, 12, 2, 12, 14, 12, 14}, 1},
		{never, []int{6, 6, 6, 6}, 1, 3, []int{6, 6, 6, 6}, 0},
		{never, []int{6, 6, 6, 6}, 4, 4, []int{0, 0, 0, 0}, 3},
	} {
		for most := c.from; most <= c.to; most++ {
			narrowed, rounds := impl.NarrowAll(c.p, c.masks, most)
			if !slices.Equal(narrowed, c.want) || rounds != c.rounds {
				t.Errorf("%v: %v become %v with %d techniques in %d rounds", c.p, c.masks, narrowed, most, rounds)
			}
		}
	}
}

func TestP6InvalidArguments(t *testing.T) {
	eachInvalid(func(p impl.Puzzle, masks []int) {
		for most := 0; most <= 5; most++ {
			if narrowed, rounds := impl.NarrowAll(p, masks, most); len(narrowed) != 0 || rounds != -1 {
				t.Fatalf("%v: %v become %v with %d techniques in %d rounds", p, masks, narrowed, most, rounds)
			}
		}
	})
	eachPuzzle(func(p impl.Puzzle, solutions [][]int) {
		for _, most := range wrongTechniques {
			if narrowed, rounds := impl.NarrowAll(p, impl.StartMasks(p), most); len(narrowed) != 0 || rounds != -1 {
				t.Fatalf("%v becomes %v with %d techniques in %d rounds", p, narrowed, most, rounds)
			}
		}
	})
}

func TestP41EveryTechnique(t *testing.T) {
	check := func(p puzzleWithWays, masks []int) {
		for number, own := range [][]int{
			1: impl.NarrowSingles(masks, p.Size),
			2: impl.NarrowHidden(masks, p.Size),
			3: impl.NarrowPairs(masks, p.Size),
			4: impl.NarrowRules(p.Puzzle, masks),
		} {
			if number == 0 {
				continue
			}
			narrowed := impl.NarrowBy(p.Puzzle, masks, number)
			if !slices.Equal(narrowed, own) || !slices.Equal(narrowed, narrowedBy(p, masks, number)) {
				t.Fatalf("%v: %v become %v with technique %d", p.Puzzle, masks, narrowed, number)
			}
		}
	}
	eachPuzzleAndMasks(check)
	eachSmallPuzzleAndMasks(check)
}

// The techniques differ here, so that none can stand for another one.
func TestP41SomeMasks(t *testing.T) {
	p := impl.Puzzle{Size: 3, Given: make([]int, 9), Rules: []impl.Rule{{Kind: impl.RuleLess, Cells: []int{3, 4}}}}
	masks := []int{2, 14, 14, 14, 14, 14, 14, 12, 12}
	for technique, want := range [][]int{
		1: {2, 12, 12, 12, 14, 14, 12, 12, 12},
		2: {2, 14, 14, 14, 14, 14, 2, 12, 12},
		3: {2, 14, 14, 14, 14, 14, 2, 12, 12},
		4: {2, 14, 14, 6, 12, 14, 14, 12, 12},
	} {
		if narrowed := impl.NarrowBy(p, masks, technique); !slices.Equal(narrowed, want) {
			t.Errorf("technique %d: %v", technique, narrowed)
		}
	}
	pairs := []int{6, 6, 30, 30, 30, 30, 30, 30, 30, 30, 30, 30, 30, 30, 30, 30}
	four := impl.Puzzle{Size: 4, Given: make([]int, 16)}
	for technique, want := range [][]int{1: pairs, 2: pairs, 3: {6, 6, 24, 24, 30, 30, 30, 30, 30, 30, 30, 30, 30, 30, 30, 30}, 4: pairs, 5: nil} {
		if narrowed := impl.NarrowBy(four, pairs, technique); !slices.Equal(narrowed, want) {
			t.Errorf("technique %d: %v", technique, narrowed)
		}
	}
}

func TestP41OtherNumbers(t *testing.T) {
	eachPuzzleAndMasks(func(p puzzleWithWays, masks []int) {
		for _, technique := range wrongTechniques {
			if narrowed := impl.NarrowBy(p.Puzzle, masks, technique); len(narrowed) != 0 {
				t.Fatalf("%v: %v become %v with technique %d", p.Puzzle, masks, narrowed, technique)
			}
		}
	})
}

// The puzzle matters to the first three techniques, too.
func TestP41InvalidArguments(t *testing.T) {
	eachInvalid(func(p impl.Puzzle, masks []int) {
		for technique := 0; technique <= 5; technique++ {
			if narrowed := impl.NarrowBy(p, masks, technique); len(narrowed) != 0 {
				t.Fatalf("%v: %v become %v with technique %d", p, masks, narrowed, technique)
			}
		}
	})
}

// linesHaveAll tells whether every value is in some mask of every line.
func linesHaveAll(masks []int, size int) bool {
	for line := range 2 * size {
		for value := 1; value <= size; value++ {
			has := func(mask int) bool { return hasValue(mask, value) }
			if !slices.ContainsFunc(lineOf(masks, size, line), has) {
				return false
			}
		}
	}
	return true
}

// checkLines fails if two techniques, or more or fewer, take a value out of a line.
func checkLines(t *testing.T, p impl.Puzzle, masks []int) {
	t.Helper()
	for most := 1; most <= 4; most++ {
		narrowed, rounds := impl.NarrowAll(p, masks, most)
		if rounds < 0 || len(narrowed) != p.Size*p.Size || !linesHaveAll(narrowed, p.Size) {
			t.Fatalf("%v: %v become %v with %d techniques", p, masks, narrowed, most)
		}
	}
}

func TestP136EveryPuzzle(t *testing.T) {
	solvable, lost := 0, 0
	check := func(p puzzleWithWays) {
		masks := impl.StartMasks(p.Puzzle)
		if len(p.solutions) > 0 {
			solvable++
			checkLines(t, p.Puzzle, masks)
		} else if narrowed, _ := impl.NarrowAll(p.Puzzle, masks, 2); !linesHaveAll(narrowed, p.Size) {
			lost++
		}
	}
	eachPuzzle(func(p impl.Puzzle, solutions [][]int) { check(withWays(p, solutions)) })
	solved := solvedGrids(2)
	eachSmallPuzzle(func(p impl.Puzzle) { check(puzzleWithWays{Puzzle: p, solutions: solutionsOf(p, solved)}) })
	if solvable < 500 || lost == 0 {
		t.Errorf("%d puzzles with a solution, and %d without one that lose a value", solvable, lost)
	}
}

func TestP136EveryGridWithASolution(t *testing.T) {
	solved := solvedGrids(3)
	everyGrid(3, func(given []int, size int) {
		p := impl.Puzzle{Size: size, Given: given}
		if repeatsNothing(given, size) && len(solutionsOf(p, solved)) > 0 {
			checkLines(t, p, impl.StartMasks(p))
		}
	})
}

// From masks with a solution on, other than those with which solving begins, nothing is lost either.
func TestP136MasksWithASolution(t *testing.T) {
	with := 0
	eachPuzzleAndMasks(func(p puzzleWithWays, masks []int) {
		has := func(solution []int) bool { return gridInMasks(masks, solution) }
		if slices.ContainsFunc(p.solutions, has) {
			with++
			checkLines(t, p.Puzzle, masks)
		}
	})
	if with < 1000 {
		t.Errorf("too few masks with a solution: %d", with)
	}
}

func TestP136SomePuzzles(t *testing.T) {
	for _, c := range []struct {
		p    impl.Puzzle
		want []int
	}{
		{impl.Puzzle{Size: 2, Given: []int{1, 0, 0, 0}}, []int{2, 4, 4, 2}},
		{impl.Puzzle{Size: 2, Given: []int{0, 0, 0, 0}}, []int{6, 6, 6, 6}},
		{impl.Puzzle{Size: 3, Given: []int{1, 2, 0, 0, 0, 0, 0, 0, 0}}, []int{2, 4, 8, 12, 10, 6, 12, 10, 6}},
		{impl.Puzzle{Size: 3, Given: []int{1, 2, 0, 3, 0, 0, 0, 0, 0}}, []int{2, 4, 8, 8, 2, 4, 4, 8, 2}},
		// Without a solution values are lost.
		{impl.Puzzle{Size: 2, Given: []int{1, 0, 0, 2}}, []int{2, 0, 0, 4}},
		{impl.Puzzle{Size: 2, Given: []int{1, 1, 0, 0}}, []int{0, 0, 0, 0}},
	} {
		narrowed, _ := impl.NarrowAll(c.p, impl.StartMasks(c.p), 2)
		if !slices.Equal(narrowed, c.want) {
			t.Errorf("%v becomes %v", c.p, narrowed)
		}
	}
}

func TestP136InvalidPuzzles(t *testing.T) {
	for _, p := range invalidPuzzles() {
		if narrowed, rounds := impl.NarrowAll(p, impl.StartMasks(p), 2); len(narrowed) != 0 || rounds != -1 {
			t.Fatalf("the invalid %v becomes %v in %d rounds", p, narrowed, rounds)
		}
	}
}

func TestRuleNarrowingResultsAreNew(t *testing.T) {
	visited := 0
	eachPuzzleAndMasks(func(p puzzleWithWays, masks []int) {
		visited++
		if visited%3 == 0 {
			checkNarrowingResults(t, p.Puzzle, masks)
		}
	})
	// Masks of which nothing is taken away are returned in new memory, too.
	for size := 2; size <= 4; size++ {
		p := impl.Puzzle{Size: size, Given: make([]int, size*size)}
		checkNarrowingResults(t, p, make([]int, size*size))
		checkNarrowingResults(t, p, sameMaskEverywhere(size, power(size+1)-2))
	}
}

// checkNarrowingResults fails if a function of the chapter writes to its puzzle or its masks, or shares memory with them.
func checkNarrowingResults(t *testing.T, p impl.Puzzle, masks []int) {
	t.Helper()
	kept := puzzleWithSpare(p)
	checkFresh(t, "NarrowRules", masks, func(masks []int) []int { return impl.NarrowRules(kept, masks) })
	for technique := 1; technique <= 4; technique++ {
		checkFresh(t, "NarrowBy", masks, func(masks []int) []int { return impl.NarrowBy(kept, masks, technique) })
		checkFresh(t, "NarrowAll", masks, func(masks []int) []int {
			narrowed, _ := impl.NarrowAll(kept, masks, technique)
			return narrowed
		})
	}
	checkUntouched(t, kept, p)
}
