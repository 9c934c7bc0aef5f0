package tests

import (
	"math"
	"slices"
	"testing"

	"loop.example/gridpuzzles/impl"
)

type sizedRule struct {
	rule impl.Rule
	size int
}

// invalidRules names every way in which a rule can be invalid, with sizes whose powers wrap around among them.
func invalidRules() []sizedRule {
	invalid := []sizedRule{
		{impl.Rule{}, 2},
		{impl.Rule{Cells: []int{0, 1}}, 2},
		{impl.Rule{Kind: 6, Cells: []int{0, 1}}, 2},
		{impl.Rule{Kind: 6, Cells: []int{0, 1}, Value: 1}, 4},
		{impl.Rule{Kind: -1, Cells: []int{0, 1}}, 3},
		{impl.Rule{Kind: math.MinInt, Cells: []int{0, 1}}, 3},
		{impl.Rule{Kind: math.MaxInt, Cells: []int{0, 1}}, 3},
		{impl.Rule{Kind: 1<<32 + impl.RuleDifferent, Cells: []int{0, 1}}, 3},
		{impl.Rule{Kind: impl.RuleDifferent, Cells: []int{0, 1}, Value: 1}, 2},
		{impl.Rule{Kind: impl.RuleDifferent, Cells: []int{0, 1}, Value: -1}, 2},
		{impl.Rule{Kind: impl.RuleLess, Cells: []int{0, 1}, Value: 1}, 4},
		{impl.Rule{Kind: impl.RuleLess, Cells: []int{0, 1}, Value: -1}, 4},
		{impl.Rule{Kind: impl.RuleDifferent, Cells: []int{0}}, 2},
		{impl.Rule{Kind: impl.RuleLess, Cells: []int{0}}, 2},
		{impl.Rule{Kind: impl.RuleLess, Cells: []int{0, 1, 2}}, 2},
		{impl.Rule{Kind: impl.RuleApart, Cells: []int{0}, Value: 1}, 2},
		{impl.Rule{Kind: impl.RuleApart, Cells: []int{0, 1, 2}, Value: 1}, 2},
		{impl.Rule{Kind: impl.RuleApart, Cells: []int{0, 1}, Value: 2}, 2},
		{impl.Rule{Kind: impl.RuleApart, Cells: []int{0, 1}, Value: 4}, 4},
		{impl.Rule{Kind: impl.RuleApart, Cells: []int{0, 1}, Value: -1}, 4},
		{impl.Rule{Kind: impl.RuleApart, Cells: []int{0, 1}, Value: math.MinInt}, 4},
	}
	for _, kind := range []int{impl.RuleSum, impl.RuleProduct} {
		invalid = append(invalid, []sizedRule{
			{impl.Rule{Kind: kind, Cells: []int{0, 1}}, 2},
			{impl.Rule{Kind: kind, Cells: []int{0, 1}, Value: -1}, 2},
			{impl.Rule{Kind: kind, Cells: []int{0, 1}, Value: 17}, 2},
			{impl.Rule{Kind: kind, Cells: []int{0, 1}, Value: 82}, 3},
			{impl.Rule{Kind: kind, Cells: []int{0, 1}, Value: 257}, 4},
			{impl.Rule{Kind: kind, Cells: []int{0, 1}, Value: math.MaxInt}, 4},
			{impl.Rule{Kind: kind, Cells: []int{0, 1}, Value: math.MinInt}, 4},
		}...)
	}
	for _, valid := range someRules() {
		invalid = append(invalid, withInvalidCells(valid)...)
		for _, size := range append([]int{0, 1, 5, -1, -2}, oddSizes...) {
			invalid = append(invalid, sizedRule{valid.rule, size})
		}
	}
	return invalid
}

// withInvalidCells returns a valid rule with other cells: none, too many, each one outside of the grid, and each one the same as the first or the last.
func withInvalidCells(valid sizedRule) []sizedRule {
	rule := valid.rule
	rule.Cells = nil
	invalid := []sizedRule{{rule, valid.size}}
	rule.Cells = []int{0, 1, 2, 3, 4}
	invalid = append(invalid, sizedRule{rule, valid.size})
	// The fifth cell is wrong in two ways.
	rule.Cells = []int{0, 1, 2, 3, 0}
	invalid = append(invalid, sizedRule{rule, valid.size})
	for k := range valid.rule.Cells {
		wrong := []int{-1, valid.size * valid.size, 16, math.MinInt, math.MaxInt, 1 << 32}
		if k > 0 {
			wrong = append(wrong, valid.rule.Cells[0], valid.rule.Cells[k-1])
		}
		for _, cell := range wrong {
			rule.Cells = slices.Clone(valid.rule.Cells)
			rule.Cells[k] = cell
			invalid = append(invalid, sizedRule{rule, valid.size})
		}
	}
	return invalid
}

// someRules lists, for every size, rules of every kind and every allowed number of cells.
func someRules() []sizedRule {
	var rules []sizedRule
	for size := 2; size <= 4; size++ {
		for _, cells := range someCells(size) {
			for _, rule := range rulesOn(cells, size, []int{1, 2, 3, 6, size * size * size * size}) {
				rules = append(rules, sizedRule{rule, size})
			}
		}
	}
	return rules
}

func someCells(size int) [][]int {
	last := size*size - 1
	return [][]int{{0}, {last}, {0, 1}, {last, 0}, {1, 2, 0}, {last, 0, 1}, {0, 1, 2, 3}, {last, 0, last - 1, 1}}
}

// rulesOn lists the rules that some cells can have, those of a sum or a product with the given totals alone.
func rulesOn(cells []int, size int, totals []int) []impl.Rule {
	var rules []impl.Rule
	if len(cells) >= 2 {
		rules = append(rules, impl.Rule{Kind: impl.RuleDifferent, Cells: cells})
	}
	for _, total := range totals {
		rules = append(rules, impl.Rule{Kind: impl.RuleSum, Cells: cells, Value: total})
		rules = append(rules, impl.Rule{Kind: impl.RuleProduct, Cells: cells, Value: total})
	}
	if len(cells) == 2 {
		rules = append(rules, impl.Rule{Kind: impl.RuleLess, Cells: cells})
		for by := range size {
			rules = append(rules, impl.Rule{Kind: impl.RuleApart, Cells: cells, Value: by})
		}
	}
	return rules
}

// totalsOf lists the values of sums and products for a size, for size 4 without most of those that no values have.
func totalsOf(size int) []int {
	var totals []int
	for total := 1; total <= size*size*size*size; total++ {
		if total <= 24 || size < 4 || total%9 == 0 || total%16 == 0 || total == 255 {
			totals = append(totals, total)
		}
	}
	return totals
}

// tuples lists all ways to choose so many values from a lowest to a highest one, by counting.
func tuples(many int, lowest int, highest int) [][]int {
	list := [][]int{{}}
	for range many {
		var longer [][]int
		for _, tuple := range list {
			for value := lowest; value <= highest; value++ {
				longer = append(longer, append(slices.Clone(tuple), value))
			}
		}
		list = longer
	}
	return list
}

// arrangements lists all ways to choose so many different numbers below a limit, in every order.
func arrangements(many int, limit int) [][]int {
	return slices.DeleteFunc(tuples(many, 0, limit-1), func(numbers []int) bool {
		for k, number := range numbers {
			if slices.Contains(numbers[k+1:], number) {
				return true
			}
		}
		return false
	})
}

// heldBy tells whether a rule holds for the values of its cells, in order.
func heldBy(rule impl.Rule, values []int) bool {
	sum, product, many := 0, 1, map[int]bool{}
	for _, value := range values {
		sum, product, many[value] = sum+value, product*value, true
	}
	switch rule.Kind {
	case impl.RuleDifferent:
		return len(many) == len(values)
	case impl.RuleSum:
		return sum == rule.Value
	case impl.RuleProduct:
		return product == rule.Value
	case impl.RuleLess:
		return values[1] > values[0]
	}
	return values[0]-values[1] == rule.Value || values[1]-values[0] == rule.Value
}

// waysOf lists the values with which a rule holds: every tuple is tried.
func waysOf(rule impl.Rule, size int) [][]int {
	return slices.DeleteFunc(tuples(len(rule.Cells), 1, size), func(values []int) bool {
		return !heldBy(rule, values)
	})
}

// eachRule visits every rule of size 2, and for the sizes 3 and 4 every rule on some cells that has a total of totalsOf, all with the ways in which they hold.
func eachRule(visit func(r sizedRule, ways [][]int)) {
	var lists [5][][]int
	for many := 1; many <= 4; many++ {
		lists[2] = append(lists[2], arrangements(many, 4)...)
	}
	lists[3], lists[4] = someCells(3), someCells(4)
	for size := 2; size <= 4; size++ {
		for _, cells := range lists[size] {
			for _, rule := range rulesOn(cells, size, totalsOf(size)) {
				visit(sizedRule{rule, size}, waysOf(rule, size))
			}
		}
	}
}

// eachRuleAndGrid visits the rules of eachRule with all values and empty cells in their own cells, and in the others with values that are different each time.
func eachRuleAndGrid(visit func(r sizedRule, ways [][]int, grid []int)) {
	next := fixedNumbers()
	var filled [5][5][][]int
	for size := 2; size <= 4; size++ {
		for many := 1; many <= 4; many++ {
			filled[size][many] = tuples(many, 0, size)
		}
	}
	eachRule(func(r sizedRule, ways [][]int) {
		for _, values := range filled[r.size][len(r.rule.Cells)] {
			grid := make([]int, r.size*r.size)
			for cell := range grid {
				grid[cell] = next(uint32(r.size + 1))
			}
			for k, cell := range r.rule.Cells {
				grid[cell] = values[k]
			}
			visit(r, ways, grid)
		}
	})
}

// eachRuleAndMasks visits the rules of eachRule with all masks of size 2, and for the other sizes with a fixed selection.
func eachRuleAndMasks(visit func(r sizedRule, ways [][]int, masks []int)) {
	var lists [5][][]int
	eachMasks(func(masks []int, size int) {
		if size == 2 || len(lists[size]) < 200 {
			lists[size] = append(lists[size], slices.Clone(masks))
		}
	})
	eachRule(func(r sizedRule, ways [][]int) {
		for _, masks := range lists[r.size] {
			visit(r, ways, masks)
		}
	})
}

// valuesAt returns the values or masks of the cells of a rule.
func valuesAt(rule impl.Rule, grid []int) []int {
	var values []int
	for _, cell := range rule.Cells {
		values = append(values, grid[cell])
	}
	return values
}

// agrees tells whether values are the same where the others are not empty.
func agrees(values []int, others []int) bool {
	for k, other := range others {
		if other != 0 && values[k] != other {
			return false
		}
	}
	return true
}

func canHold(ways [][]int, values []int) bool {
	return slices.ContainsFunc(ways, func(way []int) bool { return agrees(way, values) })
}

// masksOfWays unites the ways that are within masks.
func masksOfWays(ways [][]int, masks []int) []int {
	united := make([]int, len(masks))
	for _, way := range ways {
		within := true
		for k, value := range way {
			within = within && hasValue(masks[k], value)
		}
		for k, value := range way {
			if within && !hasValue(united[k], value) {
				united[k] += power(value)
			}
		}
	}
	return united
}

func sameMaskEverywhere(size int, mask int) []int {
	return slices.Repeat([]int{mask}, size*size)
}

func TestP29EveryRuleOnSomeCells(t *testing.T) {
	var lists [][]int
	for many := range 4 {
		lists = append(lists, tuples(many, -1, 4)...)
	}
	lists = append(lists, tuples(4, 0, 3)...)
	lists = append(lists, []int{0, 1, 2, 3, 4}, []int{8, 9}, []int{7, 8}, []int{9, 15, 0}, []int{16, 15})
	for size := 2; size <= 4; size++ {
		for _, cells := range lists {
			for kind := -1; kind <= 7; kind++ {
				for _, value := range []int{-1, 0, 1, 2, 3, 4, 5, 15, 16, 17, 80, 81, 82, 255, 256, 257} {
					rule := impl.Rule{Kind: kind, Cells: cells, Value: value}
					if impl.RuleValid(rule, size) != validRule(rule, size) {
						t.Fatalf("%v of size %d is valid: %v", rule, size, !validRule(rule, size))
					}
				}
			}
		}
	}
}

// validRule looks the number of cells and the highest value up by kind.
func validRule(rule impl.Rule, size int) bool {
	limits, known := map[int][4]int{
		impl.RuleDifferent: {2, 4, 0, 0},
		impl.RuleSum:       {1, 4, 1, []int{2: 16, 3: 81, 4: 256}[size]},
		impl.RuleProduct:   {1, 4, 1, []int{2: 16, 3: 81, 4: 256}[size]},
		impl.RuleLess:      {2, 2, 0, 0},
		impl.RuleApart:     {2, 2, 0, size - 1},
	}[rule.Kind]
	cells := map[int]bool{}
	for _, cell := range rule.Cells {
		if cell >= 0 && cell < size*size {
			cells[cell] = true
		}
	}
	enough := len(rule.Cells) >= limits[0] && len(rule.Cells) <= limits[1]
	return known && enough && len(cells) == len(rule.Cells) && rule.Value >= limits[2] && rule.Value <= limits[3]
}

func TestP29ValidRules(t *testing.T) {
	eachRule(func(r sizedRule, ways [][]int) {
		if !impl.RuleValid(r.rule, r.size) {
			t.Fatalf("%v of size %d is refused", r.rule, r.size)
		}
	})
}

func TestP29CellsTwice(t *testing.T) {
	eachRule(func(r sizedRule, ways [][]int) {
		for k := range r.rule.Cells {
			for other := range k {
				twice := r.rule
				twice.Cells = slices.Clone(r.rule.Cells)
				twice.Cells[k] = twice.Cells[other]
				if impl.RuleValid(twice, r.size) {
					t.Fatalf("%v of size %d is accepted", twice, r.size)
				}
			}
		}
	})
}

func TestP29UnknownKinds(t *testing.T) {
	for _, r := range someRules() {
		for _, kind := range []int{0, 6, 7, -1, -2, -3, -4, -5, 256 + 1, 1<<32 + 2, math.MinInt, math.MaxInt} {
			r.rule.Kind = kind
			if impl.RuleValid(r.rule, r.size) {
				t.Fatalf("%v of size %d is accepted", r.rule, r.size)
			}
		}
	}
}

func TestP29InvalidRules(t *testing.T) {
	for _, r := range invalidRules() {
		if impl.RuleValid(r.rule, r.size) {
			t.Errorf("%v of size %d is accepted", r.rule, r.size)
		}
	}
	many := impl.Rule{Kind: impl.RuleSum, Cells: make([]int, 1<<20), Value: 1}
	if impl.RuleValid(many, 4) {
		t.Error("a rule with a million cells is accepted")
	}
}

func TestP30EveryRule(t *testing.T) {
	eachRuleAndGrid(func(r sizedRule, ways [][]int, grid []int) {
		values := valuesAt(r.rule, grid)
		holds, possible := impl.RuleHolds(r.rule, grid, r.size), impl.RulePossible(r.rule, grid, r.size)
		if want := !slices.Contains(values, 0) && heldBy(r.rule, values); holds != want {
			t.Fatalf("%v of size %d holds for %v: %v", r.rule, r.size, grid, holds)
		}
		if holds && !possible {
			t.Fatalf("%v of size %d holds for %v and is not possible", r.rule, r.size, grid)
		}
	})
}

func TestP30FullGrids(t *testing.T) {
	eachRuleAndGrid(func(r sizedRule, ways [][]int, grid []int) {
		if impl.GridFilled(grid, r.size) < r.size*r.size {
			return
		}
		holds, possible := impl.RuleHolds(r.rule, grid, r.size), impl.RulePossible(r.rule, grid, r.size)
		if holds != possible {
			t.Fatalf("%v of size %d and the full grid %v: holds %v, possible %v", r.rule, r.size, grid, holds, possible)
		}
	})
}

// The cells outside of the rule are empty here, and those of the rule are not.
func TestP30RulesWhoseOwnCellsAreFilled(t *testing.T) {
	eachRule(func(r sizedRule, ways [][]int) {
		for _, values := range tuples(len(r.rule.Cells), 1, r.size) {
			grid := make([]int, r.size*r.size)
			for k, cell := range r.rule.Cells {
				grid[cell] = values[k]
			}
			holds := impl.RuleHolds(r.rule, grid, r.size)
			if holds != heldBy(r.rule, values) || holds != impl.RulePossible(r.rule, grid, r.size) {
				t.Fatalf("%v of size %d holds for %v: %v", r.rule, r.size, grid, holds)
			}
		}
	})
}

func TestP30OrderMattersForLessAlone(t *testing.T) {
	matters := map[int]bool{}
	eachRuleAndGrid(func(r sizedRule, ways [][]int, grid []int) {
		holds, possible := impl.RuleHolds(r.rule, grid, r.size), impl.RulePossible(r.rule, grid, r.size)
		for _, cells := range reordered(r.rule.Cells) {
			other := impl.Rule{Kind: r.rule.Kind, Cells: cells, Value: r.rule.Value}
			if impl.RuleHolds(other, grid, r.size) != holds || impl.RulePossible(other, grid, r.size) != possible {
				matters[r.rule.Kind] = true
			}
		}
	})
	if !matters[impl.RuleLess] || len(matters) != 1 {
		t.Errorf("the order of cells matters for the kinds %v", matters)
	}
}

// reordered returns cells in reverse order, with the first one last, and with the first two exchanged.
func reordered(cells []int) [][]int {
	reversed := slices.Clone(cells)
	slices.Reverse(reversed)
	lists := [][]int{reversed, slices.Concat(cells[1:], cells[:1])}
	if len(cells) > 1 {
		lists = append(lists, slices.Concat([]int{cells[1], cells[0]}, cells[2:]))
	}
	return lists
}

func TestP30SomeRules(t *testing.T) {
	grid := []int{1, 3, 0, 2, 2, 4, 0, 0, 3, 3, 3, 3, 4, 4, 0, 0}
	for _, c := range []struct {
		rule            impl.Rule
		holds, possible bool
	}{
		{impl.Rule{Kind: impl.RuleDifferent, Cells: []int{0, 1, 3, 5}}, true, true},
		{impl.Rule{Kind: impl.RuleDifferent, Cells: []int{0, 3, 4}}, false, false},
		{impl.Rule{Kind: impl.RuleDifferent, Cells: []int{0, 2}}, false, true},
		{impl.Rule{Kind: impl.RuleDifferent, Cells: []int{3, 2, 4}}, false, false},
		{impl.Rule{Kind: impl.RuleDifferent, Cells: []int{2, 6, 7, 14}}, false, true},
		{impl.Rule{Kind: impl.RuleSum, Cells: []int{0, 1, 3}, Value: 6}, true, true},
		{impl.Rule{Kind: impl.RuleSum, Cells: []int{1}, Value: 3}, true, true},
		{impl.Rule{Kind: impl.RuleSum, Cells: []int{1}, Value: 4}, false, false},
		{impl.Rule{Kind: impl.RuleSum, Cells: []int{0, 1, 3}, Value: 7}, false, false},
		// An empty cell is not one with the value 0.
		{impl.Rule{Kind: impl.RuleSum, Cells: []int{0, 1, 2}, Value: 4}, false, false},
		{impl.Rule{Kind: impl.RuleSum, Cells: []int{0, 1, 2}, Value: 5}, false, true},
		{impl.Rule{Kind: impl.RuleSum, Cells: []int{0, 1, 2}, Value: 8}, false, true},
		{impl.Rule{Kind: impl.RuleSum, Cells: []int{0, 1, 2}, Value: 9}, false, false},
		{impl.Rule{Kind: impl.RuleSum, Cells: []int{2}, Value: 4}, false, true},
		{impl.Rule{Kind: impl.RuleSum, Cells: []int{2}, Value: 5}, false, false},
		{impl.Rule{Kind: impl.RuleSum, Cells: []int{2, 6, 7, 14}, Value: 16}, false, true},
		{impl.Rule{Kind: impl.RuleSum, Cells: []int{2, 6, 7, 14}, Value: 17}, false, false},
		{impl.Rule{Kind: impl.RuleSum, Cells: []int{2, 6, 7, 14}, Value: 3}, false, false},
		{impl.Rule{Kind: impl.RuleSum, Cells: []int{12, 13, 5, 1}, Value: 256}, false, false},
		{impl.Rule{Kind: impl.RuleProduct, Cells: []int{1, 3, 5}, Value: 24}, true, true},
		{impl.Rule{Kind: impl.RuleProduct, Cells: []int{8, 9, 10, 11}, Value: 81}, true, true},
		{impl.Rule{Kind: impl.RuleProduct, Cells: []int{8, 9, 10, 11}, Value: 12}, false, false},
		{impl.Rule{Kind: impl.RuleProduct, Cells: []int{0}, Value: 1}, true, true},
		{impl.Rule{Kind: impl.RuleProduct, Cells: []int{1, 3, 2}, Value: 6}, false, true},
		{impl.Rule{Kind: impl.RuleProduct, Cells: []int{1, 3, 2}, Value: 30}, false, false},
		{impl.Rule{Kind: impl.RuleProduct, Cells: []int{2, 6, 7, 14}, Value: 256}, false, true},
		{impl.Rule{Kind: impl.RuleProduct, Cells: []int{2, 6, 7, 14}, Value: 255}, false, false},
		{impl.Rule{Kind: impl.RuleLess, Cells: []int{0, 1}}, true, true},
		{impl.Rule{Kind: impl.RuleLess, Cells: []int{1, 0}}, false, false},
		{impl.Rule{Kind: impl.RuleLess, Cells: []int{3, 4}}, false, false},
		{impl.Rule{Kind: impl.RuleLess, Cells: []int{2, 1}}, false, true},
		{impl.Rule{Kind: impl.RuleLess, Cells: []int{2, 0}}, false, false},
		{impl.Rule{Kind: impl.RuleLess, Cells: []int{5, 2}}, false, false},
		{impl.Rule{Kind: impl.RuleLess, Cells: []int{2, 6}}, false, true},
		{impl.Rule{Kind: impl.RuleApart, Cells: []int{0, 1}, Value: 2}, true, true},
		{impl.Rule{Kind: impl.RuleApart, Cells: []int{1, 0}, Value: 2}, true, true},
		{impl.Rule{Kind: impl.RuleApart, Cells: []int{3, 4}}, true, true},
		{impl.Rule{Kind: impl.RuleApart, Cells: []int{0, 5}, Value: 3}, true, true},
		{impl.Rule{Kind: impl.RuleApart, Cells: []int{0, 1}, Value: 1}, false, false},
		{impl.Rule{Kind: impl.RuleApart, Cells: []int{2, 3}, Value: 3}, false, false},
		{impl.Rule{Kind: impl.RuleApart, Cells: []int{2, 3}, Value: 2}, false, true},
		{impl.Rule{Kind: impl.RuleApart, Cells: []int{2, 6}}, false, true},
		{impl.Rule{Kind: impl.RuleApart, Cells: []int{14, 15}, Value: 3}, false, true},
	} {
		if holds := impl.RuleHolds(c.rule, grid, 4); holds != c.holds {
			t.Errorf("%v holds: %v", c.rule, holds)
		}
		if possible := impl.RulePossible(c.rule, grid, 4); possible != c.possible {
			t.Errorf("%v is possible: %v", c.rule, possible)
		}
	}
}

func TestP30InvalidArguments(t *testing.T) {
	for _, r := range invalidRules() {
		for _, grid := range gridsFor(r.size) {
			if impl.RuleHolds(r.rule, grid, r.size) || impl.RulePossible(r.rule, grid, r.size) {
				t.Errorf("%v of size %d holds for %v or is possible", r.rule, r.size, grid)
			}
		}
	}
	for _, g := range invalidGrids() {
		for _, r := range someRules() {
			if impl.RuleHolds(r.rule, g.grid, g.size) || impl.RulePossible(r.rule, g.grid, g.size) {
				t.Errorf("%v holds for %v of size %d or is possible", r.rule, g.grid, g.size)
			}
		}
	}
}

// gridsFor returns grids with as many cells as a size asks for, or none where it has no grid: an empty one, full ones and half ones.
func gridsFor(size int) [][]int {
	if size < 2 || size > 5 {
		return [][]int{nil, {1}, {1, 2, 2, 1}}
	}
	full, halved := make([]int, size*size), make([]int, size*size)
	for cell := range full {
		full[cell] = (cell+cell/size)%size + 1
		halved[cell] = full[cell] * (cell % 2)
	}
	return [][]int{make([]int, size*size), full, halved, sameMaskEverywhere(size, 1), sameMaskEverywhere(size, 2)}
}

// The cells of the rule are in order, and another one is not.
func TestP30InvalidValuesElsewhere(t *testing.T) {
	rule := impl.Rule{Kind: impl.RuleSum, Cells: []int{0, 1}, Value: 3}
	for _, grid := range [][]int{{1, 2, 0, 3}, {1, 2, -1, 1}, {1, 2, 2}, {1, 2, 2, 1, 1}, {1, 2}} {
		if impl.RuleHolds(rule, grid, 2) || impl.RulePossible(rule, grid, 2) {
			t.Errorf("%v holds or is possible", grid)
		}
	}
}

func TestP31EveryRule(t *testing.T) {
	eachRuleAndMasks(func(r sizedRule, ways [][]int, masks []int) {
		want := masksOfWays(ways, valuesAt(r.rule, masks))
		if got := impl.RuleMasks(r.rule, masks, r.size); !slices.Equal(got, want) {
			t.Fatalf("%v of size %d, masks %v: %v", r.rule, r.size, masks, got)
		}
	})
}

func TestP31MasksAreParts(t *testing.T) {
	eachRuleAndMasks(func(r sizedRule, ways [][]int, masks []int) {
		narrowed := impl.RuleMasks(r.rule, masks, r.size)
		empty := 0
		for k, mask := range narrowed {
			if mask&^masks[r.rule.Cells[k]] != 0 {
				t.Fatalf("%v of size %d, masks %v: %v", r.rule, r.size, masks, narrowed)
			}
			if mask == 0 {
				empty++
			}
		}
		if empty != 0 && empty != len(r.rule.Cells) {
			t.Fatalf("%v of size %d, masks %v: some of %v are empty", r.rule, r.size, masks, narrowed)
		}
	})
}

func TestP31MasksStay(t *testing.T) {
	eachRuleAndMasks(func(r sizedRule, ways [][]int, masks []int) {
		narrowed := impl.RuleMasks(r.rule, masks, r.size)
		replaced := slices.Clone(masks)
		for k, cell := range r.rule.Cells {
			replaced[cell] = narrowed[k]
		}
		if again := impl.RuleMasks(r.rule, replaced, r.size); !slices.Equal(again, narrowed) {
			t.Fatalf("%v of size %d, masks %v: first %v, then %v", r.rule, r.size, masks, narrowed, again)
		}
	})
}

func TestP31SomeMasks(t *testing.T) {
	all := sameMaskEverywhere(4, 30)
	mixed := []int{2, 6, 0, 12, 20, 18, 16, 30, 10, 4, 8, 14, 28, 24, 22, 26}
	for _, c := range []struct {
		rule        impl.Rule
		masks, want []int
	}{
		{impl.Rule{Kind: impl.RuleDifferent, Cells: []int{0, 1, 3}}, mixed, []int{2, 4, 8}},
		{impl.Rule{Kind: impl.RuleDifferent, Cells: []int{3, 1, 0}}, mixed, []int{8, 4, 2}},
		{impl.Rule{Kind: impl.RuleDifferent, Cells: []int{0, 1, 2, 3}}, all, []int{30, 30, 30, 30}},
		{impl.Rule{Kind: impl.RuleDifferent, Cells: []int{0, 2}}, mixed, []int{0, 0}},
		// Hidden among the four: only the last one can be 4.
		{impl.Rule{Kind: impl.RuleDifferent, Cells: []int{1, 3, 8, 7}}, mixed, []int{6, 12, 10, 16}},
		{impl.Rule{Kind: impl.RuleSum, Cells: []int{0, 1}, Value: 3}, all, []int{6, 6}},
		{impl.Rule{Kind: impl.RuleSum, Cells: []int{0, 1}, Value: 8}, all, []int{16, 16}},
		{impl.Rule{Kind: impl.RuleSum, Cells: []int{0, 1}, Value: 9}, all, []int{0, 0}},
		{impl.Rule{Kind: impl.RuleSum, Cells: []int{7}, Value: 3}, mixed, []int{8}},
		{impl.Rule{Kind: impl.RuleSum, Cells: []int{9}, Value: 3}, mixed, []int{0}},
		{impl.Rule{Kind: impl.RuleSum, Cells: []int{1, 3, 7}, Value: 4}, mixed, []int{2, 4, 2}},
		{impl.Rule{Kind: impl.RuleSum, Cells: []int{0, 1, 4, 5}, Value: 256}, all, []int{0, 0, 0, 0}},
		{impl.Rule{Kind: impl.RuleProduct, Cells: []int{0, 1}, Value: 6}, all, []int{12, 12}},
		{impl.Rule{Kind: impl.RuleProduct, Cells: []int{0, 1}, Value: 4}, all, []int{22, 22}},
		{impl.Rule{Kind: impl.RuleProduct, Cells: []int{12, 14}, Value: 8}, mixed, []int{20, 20}},
		{impl.Rule{Kind: impl.RuleProduct, Cells: []int{0, 1, 2, 3}, Value: 256}, all, []int{16, 16, 16, 16}},
		{impl.Rule{Kind: impl.RuleLess, Cells: []int{0, 1}}, all, []int{14, 28}},
		{impl.Rule{Kind: impl.RuleLess, Cells: []int{1, 0}}, mixed, []int{0, 0}},
		{impl.Rule{Kind: impl.RuleLess, Cells: []int{14, 8}}, mixed, []int{6, 8}},
		{impl.Rule{Kind: impl.RuleLess, Cells: []int{8, 14}}, mixed, []int{10, 20}},
		{impl.Rule{Kind: impl.RuleApart, Cells: []int{0, 1}, Value: 3}, all, []int{18, 18}},
		{impl.Rule{Kind: impl.RuleApart, Cells: []int{0, 1}}, all, []int{30, 30}},
		{impl.Rule{Kind: impl.RuleApart, Cells: []int{3, 5}, Value: 1}, mixed, []int{12, 18}},
		{impl.Rule{Kind: impl.RuleApart, Cells: []int{5, 3}, Value: 2}, mixed, []int{18, 12}},
		{impl.Rule{Kind: impl.RuleApart, Cells: []int{5, 13}, Value: 2}, mixed, []int{2, 8}},
		{impl.Rule{Kind: impl.RuleApart, Cells: []int{3, 5}}, mixed, []int{0, 0}},
	} {
		if got := impl.RuleMasks(c.rule, c.masks, 4); !slices.Equal(got, c.want) {
			t.Errorf("%v: %v instead of %v", c.rule, got, c.want)
		}
	}
}

func TestP31InvalidArguments(t *testing.T) {
	for _, r := range invalidRules() {
		for _, masks := range gridsFor(r.size) {
			for cell := range masks {
				masks[cell] = power(masks[cell]) / 2 * 2
			}
			if got := impl.RuleMasks(r.rule, masks, r.size); len(got) != 0 {
				t.Errorf("%v of size %d, masks %v: %v", r.rule, r.size, masks, got)
			}
		}
	}
	for _, m := range invalidMasks() {
		for _, r := range someRules() {
			if got := impl.RuleMasks(r.rule, m.masks, m.size); len(got) != 0 {
				t.Errorf("%v, masks %v of size %d: %v", r.rule, m.masks, m.size, got)
			}
		}
	}
}

// The result has as many masks as the rule has cells, even if they are all empty.
func TestP31ImpossibleRulesHaveEmptyMasks(t *testing.T) {
	for _, r := range someRules() {
		got := impl.RuleMasks(r.rule, make([]int, r.size*r.size), r.size)
		if !slices.Equal(got, make([]int, len(r.rule.Cells))) {
			t.Errorf("%v of size %d without any values: %v", r.rule, r.size, got)
		}
	}
}

func TestP32EveryRule(t *testing.T) {
	eachRuleAndGrid(func(r sizedRule, ways [][]int, grid []int) {
		want := canHold(ways, valuesAt(r.rule, grid))
		if possible := impl.RulePossible(r.rule, grid, r.size); possible != want {
			t.Fatalf("%v of size %d is possible for %v: %v", r.rule, r.size, grid, possible)
		}
	})
}

func TestP32WithACellEmptyMore(t *testing.T) {
	eachRuleAndGrid(func(r sizedRule, ways [][]int, grid []int) {
		if !impl.RulePossible(r.rule, grid, r.size) {
			return
		}
		for cell, value := range grid {
			grid[cell] = 0
			if !impl.RulePossible(r.rule, grid, r.size) {
				t.Fatalf("%v of size %d is possible for %v, but not with %d in cell %d", r.rule, r.size, grid, value, cell)
			}
			grid[cell] = value
		}
	})
}

func TestP32ValuesWithWhichTheRuleHolds(t *testing.T) {
	eachRuleAndGrid(func(r sizedRule, ways [][]int, grid []int) {
		// Size 4 has too many ways to ask RuleHolds about each of them.
		if r.size == 4 {
			return
		}
		if want := canFill(r, grid); impl.RulePossible(r.rule, grid, r.size) != want {
			t.Fatalf("%v of size %d and %v: can be filled %v", r.rule, r.size, grid, want)
		}
	})
}

// canFill tries all values in the empty cells of a rule and asks RuleHolds.
func canFill(r sizedRule, grid []int) bool {
	for _, values := range tuples(len(r.rule.Cells), 1, r.size) {
		if !agrees(values, valuesAt(r.rule, grid)) {
			continue
		}
		filled := slices.Clone(grid)
		for k, cell := range r.rule.Cells {
			filled[cell] = values[k]
		}
		if impl.RuleHolds(r.rule, filled, r.size) {
			return true
		}
	}
	return false
}

func TestP32EmptyGrids(t *testing.T) {
	eachRule(func(r sizedRule, ways [][]int) {
		empty := make([]int, r.size*r.size)
		if impl.RulePossible(r.rule, empty, r.size) != (len(ways) > 0) {
			t.Fatalf("%v of size %d in the empty grid: not %v", r.rule, r.size, len(ways) > 0)
		}
		if impl.RuleHolds(r.rule, empty, r.size) {
			t.Fatalf("%v of size %d holds for the empty grid", r.rule, r.size)
		}
	})
}

func TestP32SomeRulesThatNeverHold(t *testing.T) {
	for _, r := range []sizedRule{
		{impl.Rule{Kind: impl.RuleDifferent, Cells: []int{0, 1, 2}}, 2},
		{impl.Rule{Kind: impl.RuleDifferent, Cells: []int{0, 4, 8, 2}}, 3},
		{impl.Rule{Kind: impl.RuleSum, Cells: []int{0}, Value: 3}, 2},
		{impl.Rule{Kind: impl.RuleSum, Cells: []int{0, 1}, Value: 1}, 4},
		{impl.Rule{Kind: impl.RuleSum, Cells: []int{0, 1}, Value: 9}, 4},
		{impl.Rule{Kind: impl.RuleProduct, Cells: []int{0, 1, 2, 3}, Value: 5}, 4},
		{impl.Rule{Kind: impl.RuleProduct, Cells: []int{0, 1, 2}, Value: 81}, 3},
	} {
		if !impl.RuleValid(r.rule, r.size) || impl.RulePossible(r.rule, make([]int, r.size*r.size), r.size) {
			t.Errorf("%v of size %d is refused or possible", r.rule, r.size)
		}
	}
	// In a solved square cells of one line differ, but rules know nothing of lines.
	if !impl.RulePossible(impl.Rule{Kind: impl.RuleApart, Cells: []int{0, 1}}, make([]int, 4), 2) {
		t.Error("two cells of a row cannot be equal")
	}
	if !impl.RulePossible(impl.Rule{Kind: impl.RuleSum, Cells: []int{0, 1}, Value: 2}, []int{1, 0, 1, 1}, 2) {
		t.Error("a value cannot stand twice in a line")
	}
}

func TestP32InvalidArguments(t *testing.T) {
	for _, r := range invalidRules() {
		if r.size >= 0 && r.size <= 6 && impl.RulePossible(r.rule, make([]int, r.size*r.size), r.size) {
			t.Errorf("%v of size %d is possible in the empty grid", r.rule, r.size)
		}
	}
	for _, g := range invalidGrids() {
		for _, rule := range rulesOn([]int{0, 1}, 2, []int{2, 3, 4}) {
			if impl.RulePossible(rule, g.grid, g.size) {
				t.Errorf("%v is possible for %v of size %d", rule, g.grid, g.size)
			}
		}
	}
}

func TestP135ValuesExchanged(t *testing.T) {
	eachRuleAndGrid(func(r sizedRule, ways [][]int, grid []int) {
		if r.rule.Kind != impl.RuleDifferent {
			return
		}
		for a := 1; a <= r.size; a++ {
			for b := 1; b <= r.size; b++ {
				swapped := impl.GridSwap(grid, r.size, a, b)
				if impl.RuleHolds(r.rule, swapped, r.size) != impl.RuleHolds(r.rule, grid, r.size) {
					t.Fatalf("%v of size %d and %v with %d and %d exchanged: differs", r.rule, r.size, grid, a, b)
				}
			}
		}
	})
}

func TestP135SomeGrids(t *testing.T) {
	rule := impl.Rule{Kind: impl.RuleDifferent, Cells: []int{0, 4, 8}}
	for _, c := range []struct {
		grid []int
		want bool
	}{
		{[]int{1, 0, 0, 0, 2, 0, 0, 0, 3}, true},
		{[]int{1, 0, 0, 0, 2, 0, 0, 0, 2}, false},
		{[]int{1, 0, 0, 0, 0, 0, 0, 0, 3}, false},
		{[]int{3, 3, 3, 3, 1, 3, 3, 3, 2}, true},
		{[]int{0, 0, 0, 0, 0, 0, 0, 0, 0}, false},
	} {
		for _, grid := range [][]int{c.grid, impl.GridSwap(c.grid, 3, 1, 2), impl.GridSwap(c.grid, 3, 3, 1)} {
			if impl.RuleHolds(rule, grid, 3) != c.want {
				t.Errorf("%v: not %v", grid, c.want)
			}
		}
	}
}

func TestP135InvalidArguments(t *testing.T) {
	rule := impl.Rule{Kind: impl.RuleDifferent, Cells: []int{0, 3}}
	for _, g := range invalidGrids() {
		if impl.RuleHolds(rule, g.grid, g.size) || impl.RuleHolds(rule, impl.GridSwap(g.grid, g.size, 1, 2), g.size) {
			t.Errorf("%v holds for %v of size %d", rule, g.grid, g.size)
		}
	}
	grid := []int{1, 2, 3, 2, 3, 1, 3, 1, 2}
	for _, value := range []int{0, 4, -1, math.MaxInt, math.MinInt} {
		if impl.RuleHolds(rule, impl.GridSwap(grid, 3, 1, value), 3) {
			t.Errorf("%v holds with 1 and %d exchanged", rule, value)
		}
	}
}

func TestRuleResultsAreNew(t *testing.T) {
	for _, r := range someRules() {
		grid := gridsFor(r.size)[2]
		masks := sameMaskEverywhere(r.size, power(r.size+1)-2)
		cells := withSpare(r.rule.Cells)
		rule := impl.Rule{Kind: r.rule.Kind, Cells: cells, Value: r.rule.Value}
		checkFresh(t, "RuleMasks", masks, func(masks []int) []int { return impl.RuleMasks(rule, masks, r.size) })
		checkFresh(t, "RuleHolds", grid, func(grid []int) []int { return truth(impl.RuleHolds(rule, grid, r.size)) })
		checkFresh(t, "RulePossible", grid, func(grid []int) []int { return truth(impl.RulePossible(rule, grid, r.size)) })
		checkFresh(t, "RuleMasks", r.rule.Cells, func(cells []int) []int {
			return impl.RuleMasks(impl.Rule{Kind: rule.Kind, Cells: cells, Value: rule.Value}, masks, r.size)
		})
		if !slices.Equal(cells, r.rule.Cells) || spareTouched(cells) {
			t.Fatalf("the cells of %v are written to", r.rule)
		}
	}
}
