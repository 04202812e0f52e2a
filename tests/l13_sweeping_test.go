package tests

import (
	"math"
	"slices"
	"testing"

	"loop.example/memorymanagers/impl"
)

// marksFit reports whether a valid heap can be swept with marks, from the definition.
func marksFit(h impl.Heap, marks []bool) bool {
	if len(marks) != len(h.Cells) {
		return false
	}
	ways := slices.Clone(h.Roots)
	for number, c := range h.Cells {
		if marks[number] {
			ways = append(ways, c.Refs...)
		}
	}
	return !slices.ContainsFunc(ways, func(number int) bool {
		return number != -1 && h.Cells[number].Used && !marks[number]
	})
}

// sweptOf is what SweepCells must return for a valid heap, from its definition.
func sweptOf(h impl.Heap, marks []bool) (impl.Heap, int) {
	if !marksFit(h, marks) {
		return impl.Heap{}, -1
	}
	next, freed := copyOf(h), 0
	for number, c := range h.Cells {
		if marks[number] {
			continue
		}
		next.Cells[number] = impl.Cell{}
		if c.Used {
			freed++
		}
	}
	return next, freed
}

// collectedOf is what CollectSweep must return for a valid heap, from its definition.
func collectedOf(h impl.Heap) (impl.Heap, int) {
	return sweptOf(h, reachableOf(h))
}

// sweepStepOf is what StepSweep must return for a valid heap, a limit in 1..MaxCells and a valid instruction, from its definition.
func sweepStepOf(h impl.Heap, limit int, o impl.Command) (impl.Heap, bool) {
	if o.Op == 1 && firstUnused(h) >= limit {
		h, _ = collectedOf(h)
		if firstUnused(h) >= limit {
			return h, false
		}
	}
	return reusingOf(h, o)
}

// validLimit reports whether a number can be a limit, with the numbers of the document.
func validLimit(limit int) bool {
	return 1 <= limit && limit <= 40
}

// sweepRunOf is what RunSweep must return, from its definition.
func sweepRunOf(list []impl.Command, limit int) (impl.Heap, bool) {
	if !validProgram(list) || !validLimit(limit) {
		return impl.Heap{}, false
	}
	h := heapWith(nil)
	for _, o := range list {
		next, ok := sweepStepOf(h, limit, o)
		if !ok && o.Op == 1 {
			return next, false
		}
		h = next
	}
	return h, true
}

// checkSweep compares SweepCells with its definition, for valid arguments and for others, and tells whether they are valid.
func checkSweep(t *testing.T, h impl.Heap, marks []bool) bool {
	t.Helper()
	want, freed := impl.Heap{}, -1
	if validHeap(h) {
		want, freed = sweptOf(h, marks)
	}
	if got, many := impl.SweepCells(h, marks); many != freed || !sameHeap(got, want) {
		t.Fatalf("SweepCells(%v, %v) = %v, %d, not %v, %d", h, marks, got, many, want, freed)
	}
	return freed != -1
}

// checkCollectSweep compares CollectSweep and FreePlace with their definitions, for valid heaps and for others.
func checkCollectSweep(t *testing.T, h impl.Heap) {
	t.Helper()
	want, freed, place := impl.Heap{}, -1, -1
	if validHeap(h) {
		want, freed = collectedOf(h)
		place = firstUnused(h)
	}
	if got, many := impl.CollectSweep(h); many != freed || !sameHeap(got, want) {
		t.Fatalf("CollectSweep(%v) = %v, %d, not %v, %d", h, got, many, want, freed)
	}
	if got := impl.FreePlace(h); got != place {
		t.Fatalf("FreePlace(%v) = %d, not %d", h, got, place)
	}
}

// checkSweepStep compares StepSweep with its definition, for valid arguments and for others.
func checkSweepStep(t *testing.T, h impl.Heap, limit int, o impl.Command) {
	t.Helper()
	want, ok := impl.Heap{}, false
	if validHeap(h) && validLimit(limit) && validCommand(o) {
		want, ok = sweepStepOf(h, limit, o)
	}
	if got, done := impl.StepSweep(h, limit, o); done != ok || !sameHeap(got, want) {
		t.Fatalf("StepSweep(%v, %d, %v) = %v, %v, not %v, %v", h, limit, o, got, done, want, ok)
	}
}

// checkSweepRun compares RunSweep with its definition, for valid arguments and for others, and tells whether the program came to its end.
func checkSweepRun(t *testing.T, list []impl.Command, limit int) bool {
	t.Helper()
	want, ok := sweepRunOf(list, limit)
	if got, done := impl.RunSweep(list, limit); done != ok || !sameHeap(got, want) {
		t.Fatalf("RunSweep(%v, %d) = %v, %v, not %v, %v", list, limit, got, done, want, ok)
	}
	return ok
}

// checkNoSweep fails unless SweepCells returns the zero value and -1.
func checkNoSweep(t *testing.T, h impl.Heap, marks []bool) {
	t.Helper()
	if got, freed := impl.SweepCells(h, marks); freed != -1 || len(got.Cells) != 0 || len(got.Roots) != 0 {
		t.Fatalf("SweepCells(%v, %v) = %v, %d", h, marks, got, freed)
	}
}

// checkNoCollectSweep fails unless CollectSweep returns the zero value and -1, and FreePlace -1.
func checkNoCollectSweep(t *testing.T, h impl.Heap) {
	t.Helper()
	if got, freed := impl.CollectSweep(h); freed != -1 || len(got.Cells) != 0 || len(got.Roots) != 0 {
		t.Fatalf("CollectSweep(%v) = %v, %d", h, got, freed)
	}
	if place := impl.FreePlace(h); place != -1 {
		t.Fatalf("FreePlace(%v) = %d", h, place)
	}
}

// checkNoSweepStep fails unless StepSweep returns the zero value and false.
func checkNoSweepStep(t *testing.T, h impl.Heap, limit int, o impl.Command) {
	t.Helper()
	if got, ok := impl.StepSweep(h, limit, o); ok || len(got.Cells) != 0 || len(got.Roots) != 0 {
		t.Fatalf("StepSweep(%v, %d, %v) = %v, %v", h, limit, o, got, ok)
	}
}

// checkNoSweepRun fails unless RunSweep returns the zero value and false.
func checkNoSweepRun(t *testing.T, list []impl.Command, limit int) {
	t.Helper()
	if got, ok := impl.RunSweep(list, limit); ok || len(got.Cells) != 0 || len(got.Roots) != 0 {
		t.Fatalf("RunSweep(%v, %d) = %v, %v", list, limit, got, ok)
	}
}

// oddLimits are numbers that are no limits, among them such whose last bits would do: a limit is in the same range as a number of places.
var oddLimits = oddStacks

// marksFor returns marks for a heap, such that fit and such that do not: all if there are few cells, and otherwise those of what can be reached, alone, with other cells and without one, and those of all cells, of none, of those that are used, and of those that are not.
func marksFor(h impl.Heap) [][]bool {
	cells, used, reached := len(h.Cells), usedFlags(h), reachableOf(h)
	var all [][]bool
	add := func(in func(number int) bool) {
		marks := make([]bool, cells)
		for number := range marks {
			marks[number] = in(number)
		}
		all = append(all, marks)
	}
	if cells <= 4 {
		for bits := range 1 << cells {
			add(func(number int) bool { return bits&(1<<number) != 0 })
		}
		return all
	}
	add(func(number int) bool { return reached[number] })
	add(func(number int) bool { return true })
	add(func(number int) bool { return false })
	add(func(number int) bool { return used[number] })
	add(func(number int) bool { return !used[number] })
	add(func(number int) bool { return reached[number] || !used[number] })
	add(func(number int) bool { return used[number] && !reached[number] })
	add(func(number int) bool { return number < cells/2 })
	for _, suspect := range suspectsOf(h) {
		led := cellsFromOf(h, suspect)
		add(func(number int) bool { return reached[number] || led[number] })
		add(func(number int) bool { return reached[number] || number == suspect })
		add(func(number int) bool { return reached[number] && number != suspect })
		add(func(number int) bool { return number != suspect })
	}
	return all
}

// limitsFor returns limits for a heap: all that can matter if there are few cells, and otherwise the least and the greatest ones, and those around the number of cells and around the place for a new one.
func limitsFor(h impl.Heap) []int {
	cells, place := len(h.Cells), firstUnused(h)
	limits := []int{1, 2, cells / 2, cells - 1, cells, cells + 1, place - 1, place, place + 1, impl.MaxCells - 1, impl.MaxCells}
	if cells <= 4 {
		limits = append(rangeOf(1, cells+1), impl.MaxCells)
	}
	limits = slices.DeleteFunc(limits, func(limit int) bool { return !validLimit(limit) })
	slices.Sort(limits)
	return slices.Compact(limits)
}

// eachSwept calls check with the heaps of eachHeap, with all of some kinds that have 3 and 4 cells, with some in which everything is lost, and with some large ones whose cells stand at different places, or of which all but one are used.
func eachSwept(check func(h impl.Heap)) {
	eachHeap(check)
	eachGraph(3, check)
	eachHeapOf(4, 1, 1, check)
	for cells := range impl.MaxCells + 1 {
		check(heapWith(mixedHeap(cells, 20).Cells))
	}
	for _, h := range slices.Concat(wideHeaps(), fullHeaps(), oneUnused()) {
		check(h)
		for _, other := range elsewhere(h) {
			check(other)
		}
	}
}

// eachSweepStep calls check with many valid heaps, each with all valid instructions that have Data 42, and with limits: OpNew with all of limitsFor, and the others, which do not look at it, with one of them.
func eachSweepStep(check func(h impl.Heap, limit int, o impl.Command)) {
	commands := commandsWith(42)
	each := func(h impl.Heap) {
		limits := limitsFor(h)
		for k, o := range commands {
			if o.Op != impl.OpNew {
				check(h, limits[k%len(limits)], o)
				continue
			}
			for _, limit := range limits {
				check(h, limit, o)
			}
		}
	}
	eachHeapOf(0, impl.MaxRefs, impl.MaxRoots, each)
	eachHeapOf(1, 2, impl.MaxRoots, each)
	eachHeapOf(2, 2, 2, each)
	eachHeapOf(2, 1, impl.MaxRoots, each)
	eachHeapOf(3, 1, 2, each)
	for cells := range impl.MaxCells + 1 {
		for turn := range 3 {
			each(mixedHeap(cells, turn))
		}
	}
	for _, h := range slices.Concat(fullHeaps(), oneUnused()) {
		each(h)
	}
}

// TestSweepingIsTheDefinition: for all heaps of some kinds, with all marks if there are few cells, and for others, sweeping is what the chapter defines.
func TestSweepingIsTheDefinition(t *testing.T) {
	fit, others := 0, 0
	eachSwept(func(h impl.Heap) {
		checkCollectSweep(t, h)
		for _, marks := range marksFor(h) {
			if checkSweep(t, h, marks) {
				fit++
			} else {
				others++
			}
		}
	})
	if fit == 0 || others == 0 {
		t.Errorf("%d marks fit, and %d do not", fit, others)
	}
}

// TestSweepStepsAreTheDefinition: for many heaps and limits, and all instructions with them, the program agrees with the definition.
func TestSweepStepsAreTheDefinition(t *testing.T) {
	eachSweepStep(func(h impl.Heap, limit int, o impl.Command) { checkSweepStep(t, h, limit, o) })
	commands := commandsWith(allData()...)
	for _, h := range []impl.Heap{heapWith(nil), heapWith([]impl.Cell{usedCell(0, 0, -1), {}, usedCell(99, 0, 2, 0), usedCell(1)}, 0, 2, -1, 3), mixedHeap(impl.MaxCells-1, 1), mixedHeap(impl.MaxCells, 0)} {
		for _, o := range commands {
			for _, limit := range limitsFor(h) {
				checkSweepStep(t, h, limit, o)
			}
		}
	}
}

type sweptCase struct {
	name  string
	heap  impl.Heap
	marks []int // the marked cells
	want  impl.Heap
	freed int
}

// sweepsOfFew are heaps in which nothing or everything is lost, with the marks of what can be reached.
func sweepsOfFew() []sweptCase {
	none := impl.Cell{}
	row := []impl.Cell{usedCell(1, 1), usedCell(2, 2), usedCell(3)}
	ring := []impl.Cell{usedCell(1, 1), usedCell(2, 2), usedCell(3, 0)}
	return []sweptCase{
		{"no cells", heapWith(nil), nil, heapWith(nil), 0},
		{"one cell that can be reached", heapWith([]impl.Cell{usedCell(5, -1)}, 0), []int{0}, heapWith([]impl.Cell{usedCell(5, -1)}, 0), 0},
		{"one cell that can be reached from the last root alone", heapWith([]impl.Cell{usedCell(5)}, -1, -1, -1, 0), []int{0}, heapWith([]impl.Cell{usedCell(5)}, -1, -1, -1, 0), 0},
		{"one lost cell", heapWith([]impl.Cell{usedCell(5, -1)}), nil, heapWith([]impl.Cell{none}), 1},
		{"one lost cell with Data 0 and without references", heapWith([]impl.Cell{usedCell(0)}), nil, heapWith([]impl.Cell{none}), 1},
		{"one lost cell that refers to itself", heapWith([]impl.Cell{usedCell(5, 0, 0, 0)}), nil, heapWith([]impl.Cell{none}), 1},
		{"one cell that is not used", heapWith([]impl.Cell{none}), nil, heapWith([]impl.Cell{none}), 0},
		{"only cells that are not used", heapWith([]impl.Cell{none, none, none}), nil, heapWith([]impl.Cell{none, none, none}), 0},
		{"a row that can be reached", heapWith(row, 0), []int{0, 1, 2}, heapWith(row, 0), 0},
		{"a cycle that can be reached", heapWith(ring, 1, -1, 1), []int{0, 1, 2}, heapWith(ring, 1, -1, 1), 0},
		{"all roots lead to the same cell", heapWith([]impl.Cell{usedCell(1, 0)}, 0, 0, 0, 0), []int{0}, heapWith([]impl.Cell{usedCell(1, 0)}, 0, 0, 0, 0), 0},
		{"four roots lead to four cells", heapWith([]impl.Cell{usedCell(1), usedCell(2), usedCell(3), usedCell(4)}, 2, 0, 3, 1), []int{0, 1, 2, 3}, heapWith([]impl.Cell{usedCell(1), usedCell(2), usedCell(3), usedCell(4)}, 2, 0, 3, 1), 0},
		{"a lost row", heapWith(row), nil, heapWith([]impl.Cell{none, none, none}), 3},
		{"a lost cycle", heapWith(ring), nil, heapWith([]impl.Cell{none, none, none}), 3},
		{"a lost row that leads to a lost cycle", heapWith([]impl.Cell{usedCell(1, 1), usedCell(2, 2), usedCell(3, 3), usedCell(4, 2)}), nil, heapWith(make([]impl.Cell, 4)), 4},
		{"a lost cell between cells that are not used", heapWith([]impl.Cell{none, usedCell(1, 1), none}), nil, heapWith([]impl.Cell{none, none, none}), 1},
	}
}

// sweepsOfSome are heaps in which some cells are lost, with the marks of what can be reached.
func sweepsOfSome() []sweptCase {
	none := impl.Cell{}
	row := []impl.Cell{usedCell(1, 1), usedCell(2, 2), usedCell(3)}
	pair := []impl.Cell{usedCell(5, 1, -1), usedCell(6, 0), none}
	return []sweptCase{
		{"a lost cell at the beginning", heapWith([]impl.Cell{usedCell(1), usedCell(2, -1, 2), usedCell(3)}, 1), []int{1, 2}, heapWith([]impl.Cell{none, usedCell(2, -1, 2), usedCell(3)}, 1), 1},
		{"a lost cell in the middle", heapWith([]impl.Cell{usedCell(1, 2), usedCell(2, -1), usedCell(3)}, 0), []int{0, 2}, heapWith([]impl.Cell{usedCell(1, 2), none, usedCell(3)}, 0), 1},
		{"a lost cell at the end", heapWith([]impl.Cell{usedCell(1, 1), usedCell(2), usedCell(3, -1, -1)}, 0), []int{0, 1}, heapWith([]impl.Cell{usedCell(1, 1), usedCell(2), none}, 0), 1},
		{"lost cells at the beginning, in the middle and at the end", heapWith([]impl.Cell{usedCell(1), usedCell(2), usedCell(3), usedCell(4), usedCell(5)}, 3, 1), []int{1, 3}, heapWith([]impl.Cell{none, usedCell(2), none, usedCell(4), none}, 3, 1), 3},
		{"a lost cell that refers to a reached one", heapWith([]impl.Cell{usedCell(5, 1, -1), usedCell(6, 0), usedCell(7, 1)}, 0), []int{0, 1}, heapWith(pair, 0), 1},
		{"a lost cell that refers to a reached one with each of its references", heapWith([]impl.Cell{usedCell(5, 1, -1), usedCell(6, 0), usedCell(7, 0, 1, 0)}, 1), []int{0, 1}, heapWith(pair, 1), 1},
		{"a lost cell that refers to itself and to a reached one", heapWith([]impl.Cell{usedCell(5, 1, -1), usedCell(6, 0), usedCell(7, 2, 1, 2)}, 0), []int{0, 1}, heapWith(pair, 0), 1},
		{"two lost cells that refer to each other", heapWith([]impl.Cell{usedCell(1, 1), usedCell(2, 0), usedCell(3)}, 2), []int{2}, heapWith([]impl.Cell{none, none, usedCell(3)}, 2), 2},
		{"a lost cycle that leads to a reached one", heapWith([]impl.Cell{usedCell(1, 1, 2), usedCell(2, 0), usedCell(3, 3), usedCell(4, 2)}, -1, 3), []int{2, 3}, heapWith([]impl.Cell{none, none, usedCell(3, 3), usedCell(4, 2)}, -1, 3), 2},
		{"a lost cycle around a reached cell", heapWith([]impl.Cell{usedCell(1, 2), usedCell(2), usedCell(3, 1, 0)}, 1), []int{1}, heapWith([]impl.Cell{none, usedCell(2), none}, 1), 2},
		{"a row from its middle on", heapWith(row, 1), []int{1, 2}, heapWith([]impl.Cell{none, row[1], row[2]}, 1), 1},
		{"a row from its end on", heapWith(row, -1, 2), []int{2}, heapWith([]impl.Cell{none, none, row[2]}, -1, 2), 2},
		{"a cell to which reached and lost cells refer", heapWith([]impl.Cell{usedCell(1, 2), usedCell(2, 2, 2, 2), usedCell(3)}, 0), []int{0, 2}, heapWith([]impl.Cell{usedCell(1, 2), none, usedCell(3)}, 0), 1},
		{"cells that are not used between reached and lost ones", heapWith([]impl.Cell{none, usedCell(1, 3), none, usedCell(3), usedCell(4, 3), none, usedCell(6, 4)}, 1), []int{1, 3}, heapWith([]impl.Cell{none, usedCell(1, 3), none, usedCell(3), none, none, none}, 1), 2},
		{"cells with the same contents", heapWith([]impl.Cell{usedCell(4, -1), usedCell(4, -1), usedCell(4, -1)}, 2, 0), []int{0, 2}, heapWith([]impl.Cell{usedCell(4, -1), none, usedCell(4, -1)}, 2, 0), 1},
		{"a heap that is swept already", heapWith([]impl.Cell{none, usedCell(2, 3), none, usedCell(4, 1), none}, 1), []int{1, 3}, heapWith([]impl.Cell{none, usedCell(2, 3), none, usedCell(4, 1), none}, 1), 0},
	}
}

// wideSweeps are heaps of MaxCells cells, with the marks of what can be reached.
func wideSweeps() []sweptCase {
	last, half := impl.MaxCells-1, impl.MaxCells/2
	chain, none := chainOf(impl.MaxCells), make([]impl.Cell, impl.MaxCells)
	loose := slices.Repeat([]impl.Cell{usedCell(1, -1)}, impl.MaxCells)
	return []sweptCase{
		{"MaxCells cells, all of which can be reached", heapWith(chain, last), rangeOf(0, last), heapWith(chain, last), 0},
		{"MaxCells cells, all of which are lost", heapWith(chain), nil, heapWith(none), impl.MaxCells},
		{"MaxCells cells that are not used", heapWith(none), nil, heapWith(none), 0},
		{"MaxCells cells, half of which can be reached", heapWith(chain, half-1), rangeOf(0, half-1), heapWith(slices.Concat(chain[:half], none[half:]), half-1), half},
		{"MaxCells cells, all but the last one of which can be reached", heapWith(chain, last-1), rangeOf(0, last-1), heapWith(slices.Concat(chain[:last], none[:1]), last-1), 1},
		{"MaxCells cells, of which the first one alone can be reached", heapWith(chain, 0), []int{0}, heapWith(slices.Concat(chain[:1], none[1:]), 0), last},
		{"MaxCells cells, of which the last one alone can be reached", heapWith(loose, -1, last), []int{last}, heapWith(slices.Concat(none[:last], loose[last:]), -1, last), last},
	}
}

// sweepsOfMore are heaps with marks for more cells than can be reached, and for cells that are not used.
func sweepsOfMore() []sweptCase {
	none := impl.Cell{}
	row := []impl.Cell{usedCell(1, 1), usedCell(2, 2), usedCell(3)}
	pair := []impl.Cell{usedCell(1, 1), usedCell(2, 0), usedCell(3)}
	gap := []impl.Cell{usedCell(1), none, usedCell(2)}
	loose := slices.Repeat([]impl.Cell{usedCell(1, -1)}, impl.MaxCells)
	return []sweptCase{
		{"all cells of a lost row", heapWith(row), []int{0, 1, 2}, heapWith(row), 0},
		{"a lost row from its middle on", heapWith(row), []int{1, 2}, heapWith([]impl.Cell{none, row[1], row[2]}), 1},
		{"a lost row from its end on", heapWith(row), []int{2}, heapWith([]impl.Cell{none, none, row[2]}), 2},
		{"a row from its beginning on, of which only the end can be reached", heapWith(row, 2), []int{0, 1, 2}, heapWith(row, 2), 0},
		{"a lost cycle beside a lost cell", heapWith(pair), []int{0, 1}, heapWith([]impl.Cell{pair[0], pair[1], none}), 1},
		{"a lost cell beside a lost cycle", heapWith(pair), []int{2}, heapWith([]impl.Cell{none, none, pair[2]}), 2},
		{"a lost cell that refers to a reached one", heapWith([]impl.Cell{usedCell(1), usedCell(2, 0), usedCell(3, 0)}, 0), []int{0, 2}, heapWith([]impl.Cell{usedCell(1), none, usedCell(3, 0)}, 0), 1},
		{"a lost cell that refers to itself", heapWith([]impl.Cell{usedCell(1, 0), usedCell(2, 1)}), []int{1}, heapWith([]impl.Cell{none, usedCell(2, 1)}), 1},
		{"a lost cell without references, to which a freed one refers", heapWith([]impl.Cell{usedCell(1, 1, 1), usedCell(2)}), []int{1}, heapWith([]impl.Cell{none, usedCell(2)}), 1},
		{"all cells, one of which is not used", heapWith(gap, 0), []int{0, 1, 2}, heapWith(gap, 0), 0},
		{"a cell that can be reached, and one that is not used", heapWith(gap, 0), []int{0, 1}, heapWith([]impl.Cell{usedCell(1), none, none}, 0), 1},
		{"a cell that is not used, alone", heapWith(gap), []int{1}, heapWith([]impl.Cell{none, none, none}), 2},
		{"cells that are not used, and no used ones are there", heapWith([]impl.Cell{none, none}), []int{0, 1}, heapWith([]impl.Cell{none, none}), 0},
		{"one of two cells that are not used", heapWith([]impl.Cell{none, none}), []int{1}, heapWith([]impl.Cell{none, none}), 0},
		{"no cell, and no root leads to one", heapWith(row), nil, heapWith([]impl.Cell{none, none, none}), 3},
		{"MaxCells lost cells", heapWith(loose), rangeOf(0, impl.MaxCells-1), heapWith(loose), 0},
		{"the last one of MaxCells lost cells", heapWith(loose), []int{impl.MaxCells - 1}, heapWith(slices.Concat(make([]impl.Cell, impl.MaxCells-1), loose[:1])), impl.MaxCells - 1},
	}
}

// P4, P63: the results of single heaps, written out.
func TestOneSweep(t *testing.T) {
	check := func(c sweptCase) {
		marks := flagsWith(len(c.heap.Cells), c.marks...)
		if got, freed := impl.SweepCells(c.heap, marks); freed != c.freed || !sameHeap(got, c.want) {
			t.Errorf("%s: SweepCells(%v, %v) = %v, %d, not %v, %d", c.name, c.heap, marks, got, freed, c.want, c.freed)
		}
		if got, freed := impl.SweepCells(c.want, marks); freed != 0 || !sameHeap(got, c.want) {
			t.Errorf("%s: SweepCells(%v, %v) = %v, %d, not the same", c.name, c.want, marks, got, freed)
		}
	}
	for _, c := range slices.Concat(sweepsOfFew(), sweepsOfSome(), wideSweeps()) {
		check(c)
		if got, freed := impl.CollectSweep(c.heap); freed != c.freed || !sameHeap(got, c.want) {
			t.Errorf("%s: CollectSweep(%v) = %v, %d, not %v, %d", c.name, c.heap, got, freed, c.want, c.freed)
		}
	}
	for _, c := range sweepsOfMore() {
		check(c)
	}
}

type refusedSweep struct {
	name  string
	heap  impl.Heap
	marks []bool
}

// P63: marks with which a root or a marked cell refers to a used cell that is not marked, and marks for other numbers of cells, written out.
func TestOneRefusedSweep(t *testing.T) {
	given := heapWith([]impl.Cell{usedCell(5, 1, -1), usedCell(6, 0), usedCell(7, 1)}, 0)
	lost := heapWith([]impl.Cell{usedCell(1, -1, -1, 1), usedCell(2), usedCell(3, 1, 2)})
	for _, c := range []refusedSweep{
		{"no cell is marked, and a root leads to one", given, []bool{false, false, false}},
		{"the cell of the root is not marked", given, []bool{false, true, true}},
		{"the cell of the last root is not marked", heapWith([]impl.Cell{usedCell(1), usedCell(2)}, 1, -1, -1, 0), []bool{false, true}},
		{"a cell of two roots is not marked, and nothing else refers to it", heapWith([]impl.Cell{usedCell(1), usedCell(2)}, 1, 0, 0), []bool{false, true}},
		{"a cell to which the cell of the root refers is not marked", given, []bool{true, false, true}},
		{"only the cell of the root is marked", given, []bool{true, false, false}},
		{"a cell far from the root is not marked", heapWith([]impl.Cell{usedCell(1, 1), usedCell(2, 2), usedCell(3, 3), usedCell(4)}, 0), []bool{true, true, true, false}},
		{"a cell in the middle is not marked", heapWith([]impl.Cell{usedCell(1, 1), usedCell(2, 2), usedCell(3)}, 0), []bool{true, false, true}},
		{"a marked lost cell refers to one with its last reference", lost, []bool{true, false, false}},
		{"a marked lost cell refers to itself and to one that is not marked", lost, []bool{false, false, true}},
		{"two marked lost cells refer to the same one", lost, []bool{true, false, true}},
		{"one of two lost cells that refer to each other is marked", heapWith([]impl.Cell{usedCell(1, 1), usedCell(2, 0)}), []bool{true, false}},
		{"the other one of two lost cells that refer to each other is marked", heapWith([]impl.Cell{usedCell(1, 1), usedCell(2, 0)}), []bool{false, true}},
		{"only a cell that is not used is marked", heapWith([]impl.Cell{{}, usedCell(1)}, 1), []bool{true, false}},
		{"nil", given, nil},
		{"no marks", given, []bool{}},
		{"a mark too few", given, []bool{true, true}},
		{"a mark too many", given, []bool{true, true, false, false}},
		{"a mark too many that is true", given, []bool{true, true, false, true}},
		{"a mark too few, for a cell that is not used", heapWith([]impl.Cell{usedCell(1), {}}, 0), []bool{true}},
		{"a mark too few, for a lost cell", heapWith([]impl.Cell{usedCell(1), usedCell(2)}, 0), []bool{true}},
		{"a mark, and no cells", heapWith(nil), []bool{false}},
		{"a mark that is true, and no cells", heapWith(nil), []bool{true}},
		{"nil, and a cell that is not used", heapWith([]impl.Cell{{}}), nil},
		{"two marks, and a cell that is not used", heapWith([]impl.Cell{{}}), []bool{false, false}},
	} {
		if got, freed := impl.SweepCells(c.heap, c.marks); freed != -1 || len(got.Cells) != 0 || len(got.Roots) != 0 {
			t.Errorf("%s: SweepCells(%v, %v) = %v, %d", c.name, c.heap, c.marks, got, freed)
		}
	}
}

// checkKept fails unless a heap after sweeping has exactly the used cells of the one before that are kept, as they were and where they were, and a program sees the same of both; it returns how many were freed.
func checkKept(t *testing.T, before, after impl.Heap, kept func(number int) bool) int {
	t.Helper()
	if len(after.Cells) != len(before.Cells) || !slices.Equal(after.Roots, before.Roots) {
		t.Fatalf("after sweeping %v is %v", before, after)
	}
	freed := 0
	for number, c := range before.Cells {
		want := impl.Cell{}
		if c.Used && kept(number) {
			want = c
		} else if c.Used {
			freed++
		}
		if !sameCell(after.Cells[number], want) {
			t.Fatalf("after sweeping %v is %v, with cell %d not %v", before, after, number, want)
		}
	}
	if !impl.HeapValid(after) || !validHeap(after) {
		t.Fatalf("after sweeping %v is %v, which is not valid", before, after)
	}
	if !impl.SameView(before, after) || !slices.Equal(viewOf(before), viewOf(after)) {
		t.Fatalf("after sweeping %v is %v, of which a program sees %v", before, after, impl.ViewOf(after))
	}
	return freed
}

// P4: swept heaps have what can be reached: exactly these cells are used, at their places, and a program sees the same.
func TestSweptHeapsHaveWhatCanBeReached(t *testing.T) {
	freed, kept := 0, 0
	eachSwept(func(h impl.Heap) {
		reached := reachableOf(h)
		got, many := impl.CollectSweep(h)
		if want := checkKept(t, h, got, func(number int) bool { return reached[number] }); many != want {
			t.Fatalf("CollectSweep(%v) = %v, %d, and %d cells were freed", h, got, many, want)
		}
		if !slices.Equal(impl.Reachable(got), reached) || !slices.Equal(usedFlags(got), reached) {
			t.Fatalf("CollectSweep(%v) = %v, of which %v can be reached", h, got, impl.Reachable(got))
		}
		if used, live := impl.UsedCells(got); used != live || many != usedCount(h)-used {
			t.Fatalf("CollectSweep(%v) = %v, %d, with %d used cells, of which %d can be reached", h, got, many, used, live)
		}
		if many > 0 {
			freed++
		} else {
			kept++
		}
	})
	if freed == 0 || kept == 0 {
		t.Errorf("in %d heaps cells were freed, and in %d not", freed, kept)
	}
}

// P4: in whatever order the cells of the written cases stand, the same ones are left.
func TestSweepsInEveryOrder(t *testing.T) {
	for _, c := range slices.Concat(sweepsOfFew(), sweepsOfSome()) {
		cells := len(c.heap.Cells)
		if cells > 6 {
			continue
		}
		eachOrder(cells, func(at []int) {
			h, want := placed(c.heap, cells, at), placed(c.want, cells, at)
			if got, freed := impl.CollectSweep(h); freed != c.freed || !sameHeap(got, want) {
				t.Fatalf("%s: CollectSweep(%v) = %v, %d, not %v, %d", c.name, h, got, freed, want, c.freed)
			}
		})
	}
	for _, c := range slices.Concat(reachedCycles(), lostCycles(), cyclesWithLostCells(), cyclesWithOthers()) {
		cells := len(c.heap.Cells)
		eachOrder(cells, func(at []int) {
			h := placed(c.heap, cells, at)
			got, _ := impl.CollectSweep(h)
			checkKept(t, h, got, func(number int) bool { return slices.Contains(c.left, slices.Index(at, number)) })
		})
	}
}

// P4: every one of MaxCells cells can be the only one that is kept, and the only one that is freed.
func TestEveryCellIsSwept(t *testing.T) {
	loose := slices.Repeat([]impl.Cell{usedCell(7, -1)}, impl.MaxCells)
	none := make([]impl.Cell, impl.MaxCells)
	for number := range impl.MaxCells {
		only := heapWith(slices.Concat(none[:number], loose[:1], none[number+1:]), number)
		if got, freed := impl.CollectSweep(heapWith(loose, number)); freed != impl.MaxCells-1 || !sameHeap(got, only) {
			t.Fatalf("CollectSweep with one root at cell %d = %v, %d", number, got, freed)
		}
		// A row that leaves out the one cell.
		cells, before := slices.Clone(loose), -1
		for k := range cells {
			if k != number {
				cells[k] = usedCell(k, before)
				before = k
			}
		}
		h := heapWith(cells, before)
		got, freed := impl.CollectSweep(h)
		if many := checkKept(t, h, got, func(k int) bool { return k != number }); freed != 1 || many != 1 {
			t.Fatalf("CollectSweep(%v) = %v, %d", h, got, freed)
		}
		if place := impl.FreePlace(got); place != number {
			t.Fatalf("FreePlace(%v) = %d", got, place)
		}
	}
}

// P63: marked cells stay: exactly the marked used cells are used afterwards, a program sees the same, and sweeping again frees nothing.
func TestMarkedCellsStay(t *testing.T) {
	more, some := 0, 0
	eachSwept(func(h impl.Heap) {
		reached := reachableOf(h)
		for _, marks := range marksFor(h) {
			got, freed := impl.SweepCells(h, marks)
			if freed == -1 {
				continue
			}
			if want := checkKept(t, h, got, func(number int) bool { return marks[number] }); freed != want {
				t.Fatalf("SweepCells(%v, %v) = %v, %d, and %d cells were freed", h, marks, got, freed, want)
			}
			if again, none := impl.SweepCells(got, marks); none != 0 || !sameHeap(again, got) {
				t.Fatalf("SweepCells(%v, %v) = %v, %d", got, marks, again, none)
			}
			if usedCount(got) > len(impl.MetOrder(h)) {
				more++
			}
			if slices.Equal(marks, reached) && freed > 0 {
				some++
			}
		}
	})
	if more == 0 || some == 0 {
		t.Errorf("with %d marks lost cells are kept, and with %d not", more, some)
	}
}

// P63: marks for cells that are not used change nothing, whichever they are.
func TestMarksForCellsThatAreNotUsed(t *testing.T) {
	seen := 0
	check := func(h impl.Heap) {
		want, freed := impl.CollectSweep(h)
		reached := reachableOf(h)
		for number, c := range h.Cells {
			if c.Used {
				continue
			}
			seen++
			marks := slices.Clone(reached)
			marks[number] = true
			if got, many := impl.SweepCells(h, marks); many != freed || !sameHeap(got, want) {
				t.Fatalf("SweepCells(%v, %v) = %v, %d, not %v, %d", h, marks, got, many, want, freed)
			}
			reached[number] = number%2 == 0
		}
	}
	eachHeapOf(2, 2, 2, check)
	eachHeapOf(3, 1, 2, check)
	for _, h := range slices.Concat(validHeapsOfAllSizes(), oneUnused()) {
		check(h)
	}
	if seen == 0 {
		t.Error("there was no cell that is not used")
	}
}

// P63: without the mark of one cell to which a root or a marked cell refers nothing is swept; without that of another one exactly that is freed.
func TestMarksWithoutOneCell(t *testing.T) {
	fit, others := 0, 0
	check := func(h impl.Heap) {
		all := usedFlags(h)
		for number, c := range h.Cells {
			if !c.Used {
				continue
			}
			marks := slices.Clone(all)
			marks[number] = false
			without := copyOf(h)
			without.Cells[number] = impl.Cell{}
			// What the cell itself refers to, itself among it, does not matter.
			if leadingTo(without, number) > 0 {
				others++
				checkNoSweep(t, h, marks)
				continue
			}
			fit++
			if got, freed := impl.SweepCells(h, marks); freed != 1 || !sameHeap(got, without) {
				t.Fatalf("SweepCells(%v, %v) = %v, %d", h, marks, got, freed)
			}
		}
	}
	eachHeapOf(2, 2, 2, check)
	eachHeapOf(3, 1, 2, check)
	eachGraph(3, check)
	for _, h := range slices.Concat(validHeapsOfAllSizes(), oneUnused()) {
		check(h)
	}
	if fit == 0 || others == 0 {
		t.Errorf("%d marks fit, and %d do not", fit, others)
	}
}

// P58: leaked cells are lost: they are used and cannot be reached, and no other used cell is lost; after CollectSweep there are none.
func TestLeakedCellsAreLost(t *testing.T) {
	lost := 0
	eachSwept(func(h impl.Heap) {
		leaked, reached := impl.LeakedCells(h), impl.Reachable(h)
		if !slices.Equal(reached, reachableOf(h)) {
			t.Fatalf("Reachable(%v) = %v", h, reached)
		}
		for number, c := range h.Cells {
			if slices.Contains(leaked, number) != (c.Used && !reached[number]) {
				t.Fatalf("LeakedCells(%v) = %v, and %v can be reached", h, leaked, reached)
			}
		}
		got, freed := impl.CollectSweep(h)
		if left := impl.LeakedCells(got); len(left) != 0 || len(leakedOf(got)) != 0 || freed != len(leaked) {
			t.Fatalf("CollectSweep(%v) = %v, %d, with %v leaked before and %v then", h, got, freed, leaked, left)
		}
		for _, number := range leaked {
			if !sameCell(got.Cells[number], impl.Cell{}) {
				t.Fatalf("CollectSweep(%v) = %v, and cell %d had leaked", h, got, number)
			}
		}
		lost += len(leaked)
	})
	if lost == 0 {
		t.Error("no cell has leaked")
	}
}

// P58: the leaked cells of the written cases are freed.
func TestOneLeakIsSwept(t *testing.T) {
	for _, c := range someLeaks() {
		got, freed := impl.CollectSweep(c.heap)
		checkKept(t, c.heap, got, func(number int) bool { return !slices.Contains(c.leaked, number) })
		if freed != len(c.leaked) || len(impl.LeakedCells(got)) != 0 {
			t.Errorf("%s: CollectSweep(%v) = %v, %d", c.name, c.heap, got, freed)
		}
	}
	for _, c := range slices.Concat(freeingPrograms(), leakingPrograms()) {
		if got, freed := impl.CollectSweep(c.want); freed != len(c.leaked) || len(impl.LeakedCells(got)) != 0 {
			t.Errorf("%s: CollectSweep(%v) = %v, %d", c.name, c.want, got, freed)
		}
	}
}

// checkAgain fails unless a further sweep leaves a swept heap unchanged, and so does CollectCycles with its counts.
func checkAgain(t *testing.T, swept impl.Heap) {
	t.Helper()
	if got, freed := impl.CollectSweep(swept); freed != 0 || !sameHeap(got, swept) {
		t.Fatalf("CollectSweep(%v) = %v, %d", swept, got, freed)
	}
	if got, freed := impl.SweepCells(swept, impl.Reachable(swept)); freed != 0 || !sameHeap(got, swept) {
		t.Fatalf("SweepCells(%v) = %v, %d", swept, got, freed)
	}
	c := impl.Counted{Store: swept, Counts: impl.RefCounts(swept)}
	if got, freed := impl.CollectCycles(c); freed != 0 || !sameCounted(got, c) || !sameCounted(got, countedOf(swept)) {
		t.Fatalf("CollectCycles(%v) = %v, %d", c, got, freed)
	}
}

// P124: sweeping again frees nothing: a swept heap is unchanged by a further sweep, and so it is by CollectCycles with its counts; CollectCycles of the heap before frees the same cells.
func TestSweepingAgainFreesNothing(t *testing.T) {
	eachSwept(func(h impl.Heap) {
		swept, freed := impl.CollectSweep(h)
		checkAgain(t, swept)
		if got, many := impl.CollectCycles(impl.Counted{Store: h, Counts: refCountsOf(h)}); many != freed || !sameHeap(got.Store, swept) {
			t.Fatalf("CollectCycles(%v) = %v, %d, and CollectSweep = %v, %d", h, got, many, swept, freed)
		}
	})
	for _, c := range slices.Concat(sweepsOfFew(), sweepsOfSome(), wideSweeps()) {
		checkAgain(t, c.want)
	}
	for _, c := range slices.Concat(reachedCycles(), lostCycles(), cyclesWithLostCells(), cyclesWithOthers(), wideCycles()) {
		swept, _ := impl.CollectSweep(c.heap)
		checkAgain(t, swept)
	}
}

// checkViewIsHeap fails unless HeapOf of the view of a valid heap has the same view, which begins with one number for every root and goes on with the cells of MetOrder.
func checkViewIsHeap(t *testing.T, h impl.Heap) {
	t.Helper()
	view, met := impl.ViewOf(h), impl.MetOrder(h)
	got, ok := impl.HeapOf(view)
	if !ok || !slices.Equal(impl.ViewOf(got), view) || !impl.SameView(got, h) || !sameLook(got, h) {
		t.Fatalf("ViewOf(%v) = %v, and HeapOf of it %v, %v", h, view, got, ok)
	}
	many := impl.MaxRoots
	for _, number := range met {
		many += 2 + len(h.Cells[number].Refs)
	}
	if len(view) != many {
		t.Fatalf("ViewOf(%v) = %v, with %v in MetOrder", h, view, met)
	}
	for k, root := range h.Roots {
		if view[k] != slices.Index(met, root) {
			t.Fatalf("ViewOf(%v) = %v, and root %d is %d of %v", h, view, k, root, met)
		}
	}
}

// P53: views are heaps: HeapOf of the view has the same view, which begins with one number for every root; what cannot be reached does not matter.
func TestViewsAreHeaps(t *testing.T) {
	lost := 0
	eachSwept(func(h impl.Heap) {
		checkViewIsHeap(t, h)
		view := impl.ViewOf(h)
		swept, freed := impl.CollectSweep(h)
		for _, other := range []impl.Heap{swept, withLostCells(h), withLostCells(swept)} {
			if !slices.Equal(impl.ViewOf(other), view) {
				t.Fatalf("ViewOf(%v) = %v, and ViewOf(%v) = %v", h, view, other, impl.ViewOf(other))
			}
		}
		lost += freed
	})
	if lost == 0 {
		t.Error("there was no lost cell")
	}
}

// P53: whatever is in a lost cell, a program sees the same.
func TestLostCellsDoNotMatter(t *testing.T) {
	changed := 0
	check := func(h impl.Heap) {
		view, reached := impl.ViewOf(h), impl.Reachable(h)
		for number := range h.Cells {
			if reached[number] {
				continue
			}
			changed++
			for _, c := range []impl.Cell{usedCell(0), usedCell(99, -1, -1, -1), usedCell(7, number), usedCell(8, h.Roots[0], number, h.Roots[3])} {
				other := copyOf(h)
				other.Cells[number] = c
				if got := impl.ViewOf(other); !slices.Equal(got, view) || !impl.SameView(h, other) {
					t.Fatalf("ViewOf(%v) = %v, and ViewOf(%v) = %v", h, view, other, got)
				}
				if back, freed := impl.CollectSweep(other); freed == 0 || !slices.Equal(impl.ViewOf(back), view) {
					t.Fatalf("CollectSweep(%v) = %v, %d", other, back, freed)
				}
			}
		}
	}
	eachHeapOf(2, 2, 2, check)
	eachHeapOf(3, 1, 2, check)
	for _, h := range slices.Concat(validHeapsOfAllSizes(), oneUnused()) {
		check(h)
	}
	if changed == 0 {
		t.Error("there was no lost cell")
	}
}

// P64: free places are not used: no cell before it is free, and it is at most the number of cells.
func TestFreePlacesAreNotUsed(t *testing.T) {
	behind, between := 0, 0
	eachSwept(func(h impl.Heap) {
		place := impl.FreePlace(h)
		if place < 0 || place > len(h.Cells) || slices.Contains(usedFlags(h)[:place], false) {
			t.Fatalf("FreePlace(%v) = %d", h, place)
		}
		if place == len(h.Cells) {
			behind++
			return
		}
		between++
		if h.Cells[place].Used {
			t.Fatalf("FreePlace(%v) = %d, and this cell is used", h, place)
		}
	})
	if behind == 0 || between == 0 {
		t.Errorf("the place is behind all cells in %d heaps, and is that of a cell in %d", behind, between)
	}
}

// P64: for every number of cells the place can be everywhere, whatever is behind it; a lost cell is not free before it is swept.
func TestPlacesEverywhere(t *testing.T) {
	for cells := range impl.MaxCells + 1 {
		lost := slices.Repeat([]impl.Cell{usedCell(3, -1)}, cells)
		if place := impl.FreePlace(heapWith(lost)); place != cells {
			t.Fatalf("FreePlace(%v) = %d", heapWith(lost), place)
		}
		for want := range cells {
			for _, list := range [][]impl.Cell{
				slices.Concat(lost[:want], make([]impl.Cell, 1), lost[want+1:]),
				slices.Concat(lost[:want], make([]impl.Cell, cells-want)),
			} {
				if place := impl.FreePlace(heapWith(list)); place != want {
					t.Fatalf("FreePlace(%v) = %d", heapWith(list), place)
				}
			}
		}
		swept, _ := impl.CollectSweep(heapWith(lost))
		if place := impl.FreePlace(swept); place != 0 || len(swept.Cells) != cells {
			t.Fatalf("FreePlace(%v) = %d", swept, place)
		}
	}
}

type sweepStep struct {
	name    string
	heap    impl.Heap
	limit   int
	command impl.Command
	want    impl.Heap
	ok      bool
}

// stepsWithRoom are steps with OpNew for which there is a place below the limit at once: no cell is freed.
func stepsWithRoom() []sweepStep {
	none, c, new0, new1 := impl.Cell{}, usedCell(5, -1, -1), opNew(0, 2, 5), opNew(1, 2, 5)
	two := []impl.Cell{usedCell(1), usedCell(2)}
	last := slices.Repeat([]impl.Cell{usedCell(1)}, impl.MaxCells-1)
	return []sweepStep{
		{"no cells, and a limit of 1", heapWith(nil), 1, new0, heapWith([]impl.Cell{c}, 0), true},
		{"no cells, and a limit of MaxCells", heapWith(nil), impl.MaxCells, new1, heapWith([]impl.Cell{c}, -1, 0), true},
		{"no references, and Data 0", heapWith(nil), 1, opNew(3, 0, 0), heapWith([]impl.Cell{usedCell(0)}, -1, -1, -1, 0), true},
		{"MaxRefs references, and MaxData", heapWith([]impl.Cell{none}), 1, opNew(2, 3, 99), heapWith([]impl.Cell{usedCell(99, -1, -1, -1)}, -1, -1, 0), true},
		{"the place behind the last cell is the last one below the limit", heapWith(two, 0, 1), 3, opNew(2, 2, 5), heapWith([]impl.Cell{two[0], two[1], c}, 0, 1, 2), true},
		{"a cell that is not used is the last one below the limit", heapWith([]impl.Cell{two[0], none, two[1]}, 0, 2), 2, opNew(2, 2, 5), heapWith([]impl.Cell{two[0], c, two[1]}, 0, 2, 1), true},
		{"the only cell is not used, and the limit is 1", heapWith([]impl.Cell{none}), 1, new0, heapWith([]impl.Cell{c}, 0), true},
		{"the first one of several cells that are not used", heapWith([]impl.Cell{two[0], none, two[1], none, none}, 2), 4, new1, heapWith([]impl.Cell{two[0], c, two[1], none, none}, 2, 1), true},
		{"a cell that is not used before the place behind the last one", heapWith([]impl.Cell{none, two[0]}, 1), impl.MaxCells, new1, heapWith([]impl.Cell{c, two[0]}, 1, 0), true},
		{"lost cells stay, and the place is behind them", heapWith(two), 3, new0, heapWith([]impl.Cell{two[0], two[1], c}, 2), true},
		{"lost cells stay, and the place is between them", heapWith([]impl.Cell{two[0], none, two[1]}), 2, new0, heapWith([]impl.Cell{two[0], c, two[1]}, 1), true},
		{"the root alone keeps a cell alive", heapWith(two[:1], 0), 2, new0, heapWith([]impl.Cell{two[0], c}, 1), true},
		{"the root alone keeps a row alive", heapWith([]impl.Cell{usedCell(1, 1), usedCell(2)}, 0), 3, new0, heapWith([]impl.Cell{usedCell(1, 1), usedCell(2), c}, 2), true},
		{"another root keeps the cell of the root alive", heapWith(two[:1], 0, 0), 2, new1, heapWith([]impl.Cell{two[0], c}, 0, 1), true},
		{"the last one of MaxCells cells", heapWith(last, 0), impl.MaxCells, new1, heapWith(slices.Concat(last, []impl.Cell{c}), 0, 39), true},
		{"more cells than the limit, the first one of which is not used", heapWith([]impl.Cell{none, two[0], two[1]}, 1, 2), 1, opNew(3, 2, 5), heapWith([]impl.Cell{c, two[0], two[1]}, 1, 2, -1, 0), true},
		{"more cells than the limit, with a lost one behind the place", heapWith([]impl.Cell{two[0], none, two[1]}, 0), 2, new1, heapWith([]impl.Cell{two[0], c, two[1]}, 0, 1), true},
	}
}

// stepsAfterSweeping are steps with OpNew for which there is a place below the limit only after lost cells are freed.
func stepsAfterSweeping() []sweepStep {
	none, c, new0, new1 := impl.Cell{}, usedCell(5, -1, -1), opNew(0, 2, 5), opNew(1, 2, 5)
	row := []impl.Cell{usedCell(1, 1), usedCell(2, 2), usedCell(3)}
	chain := chainOf(impl.MaxCells)
	return []sweepStep{
		{"the only cell is lost", heapWith([]impl.Cell{usedCell(1, 0)}), 1, new0, heapWith([]impl.Cell{c}, 0), true},
		{"so many cells as the limit, none of which can be reached", heapWith(row), 3, new1, heapWith([]impl.Cell{c, none, none}, -1, 0), true},
		{"so many cells as the limit, all but the first one of which can be reached", heapWith(row, 1), 3, new1, heapWith([]impl.Cell{c, row[1], row[2]}, 1, 0), true},
		{"so many cells as the limit, all but the middle one of which can be reached", heapWith([]impl.Cell{usedCell(1, 2), usedCell(2, 2), usedCell(3)}, 0), 3, new1, heapWith([]impl.Cell{usedCell(1, 2), c, usedCell(3)}, 0, 1), true},
		{"so many cells as the limit, all but the last one of which can be reached", heapWith([]impl.Cell{usedCell(1, 1), usedCell(2), usedCell(3, 0)}, 0), 3, new1, heapWith([]impl.Cell{usedCell(1, 1), usedCell(2), c}, 0, 2), true},
		{"a lost cycle", heapWith([]impl.Cell{usedCell(1, 2), usedCell(2), usedCell(3, 0, 1)}, 1), 3, new0, heapWith([]impl.Cell{c, usedCell(2), none}, 0), true},
		{"the root alone keeps a cell alive, and another one is lost", heapWith([]impl.Cell{usedCell(1), usedCell(2)}, 0), 2, new0, heapWith([]impl.Cell{usedCell(1), c}, 1), true},
		{"the root alone keeps a row alive, and another cell is lost", heapWith([]impl.Cell{usedCell(1), usedCell(2, 2), usedCell(3)}, 1), 3, new0, heapWith([]impl.Cell{c, usedCell(2, 2), usedCell(3)}, 0), true},
		{"the place before is that behind the last one below the limit", heapWith([]impl.Cell{usedCell(1), usedCell(2), none}, 1), 2, new1, heapWith([]impl.Cell{c, usedCell(2), none}, 1, 0), true},
		{"the place before is that behind the last one below the limit, and lost cells are behind it", heapWith([]impl.Cell{usedCell(1), usedCell(2), none, usedCell(4)}, 1), 2, new1, heapWith([]impl.Cell{c, usedCell(2), none, none}, 1, 0), true},
		{"more cells than the limit, and lost ones below it and behind it", heapWith([]impl.Cell{usedCell(1), usedCell(2), usedCell(3), usedCell(4), usedCell(5)}, 0, 3), 2, opNew(2, 2, 5), heapWith([]impl.Cell{usedCell(1), c, none, usedCell(4), none}, 0, 3, 1), true},
		{"more cells than the limit, and all are lost", heapWith(row), 1, new0, heapWith([]impl.Cell{c, none, none}, 0), true},
		{"MaxCells cells, the last one of which is lost", heapWith(chain, 38), impl.MaxCells, new1, heapWith(slices.Concat(chain[:39], []impl.Cell{c}), 38, 39), true},
		{"MaxCells cells, the first one of which alone can be reached", heapWith(chain, 0), impl.MaxCells, new1, heapWith(slices.Concat(chain[:1], []impl.Cell{c}, make([]impl.Cell, 38)), 0, 1), true},
		{"MaxCells lost cells, and a limit of 1", heapWith(chain), 1, new0, heapWith(slices.Concat([]impl.Cell{c}, make([]impl.Cell, 39)), 0), true},
	}
}

// stepsWithoutRoom are steps with OpNew for which there is no cell even after sweeping.
func stepsWithoutRoom() []sweepStep {
	none, new0, new3 := impl.Cell{}, opNew(0, 2, 5), opNew(3, 2, 5)
	row := []impl.Cell{usedCell(1, 1), usedCell(2, 2), usedCell(3)}
	two := []impl.Cell{usedCell(1), usedCell(2)}
	chain := chainOf(impl.MaxCells)
	return []sweepStep{
		{"one cell that can be reached, and a limit of 1", heapWith(two[:1], -1, 0), 1, new0, heapWith(two[:1], -1, 0), false},
		{"the root alone keeps the only cell alive", heapWith(two[:1], 0), 1, new0, heapWith(two[:1], 0), false},
		{"the root alone keeps all cells alive", heapWith(row, 0), 3, new0, heapWith(row, 0), false},
		{"so many cells as the limit, all of which can be reached", heapWith(row, -1, 0), 3, new0, heapWith(row, -1, 0), false},
		{"the place is that behind the last one below the limit", heapWith([]impl.Cell{two[0], two[1], none}, 0, 1), 2, new3, heapWith([]impl.Cell{two[0], two[1], none}, 0, 1), false},
		{"the place is far behind the limit", heapWith([]impl.Cell{row[0], row[1], row[2], none}, 0), 1, new3, heapWith([]impl.Cell{row[0], row[1], row[2], none}, 0), false},
		{"more cells than the limit, all of which can be reached", heapWith(row, 0), 2, new3, heapWith(row, 0), false},
		{"more cells than the limit, the last one of which is lost", heapWith([]impl.Cell{two[0], two[1], usedCell(3, 0)}, 0, 1), 2, new3, heapWith([]impl.Cell{two[0], two[1], none}, 0, 1), false},
		{"more cells than the limit, with a lost one behind the limit", heapWith([]impl.Cell{usedCell(1, 2), usedCell(2, 1), usedCell(3)}, 0), 1, new3, heapWith([]impl.Cell{usedCell(1, 2), none, usedCell(3)}, 0), false},
		{"more cells than the limit, with a lost cycle behind a place that is not used", heapWith([]impl.Cell{two[0], none, usedCell(3, 3), usedCell(4, 2, 0)}, 0), 1, new0, heapWith([]impl.Cell{two[0], none, none, none}, 0), false},
		{"MaxCells cells, all of which can be reached", heapWith(chain, 39), impl.MaxCells, new0, heapWith(chain, 39), false},
		{"MaxCells cells, half of which are lost, and half of them as the limit", heapWith(chain, 19), 20, new3, heapWith(slices.Concat(chain[:20], make([]impl.Cell, 20)), 19), false},
		{"MaxCells cells, the first one of which alone can be reached, and a limit of 1", heapWith(chain, 0), 1, new0, heapWith(slices.Concat(chain[:1], make([]impl.Cell, 39)), 0), false},
	}
}

// stepsWithoutSweeping are steps with other instructions, in heaps with lost cells and with more cells than the limit: nothing is freed, whether they are possible or not.
func stepsWithoutSweeping() []sweepStep {
	lost := heapWith([]impl.Cell{usedCell(1, 1, -1), usedCell(2), usedCell(3, 0)}, 0, 1)
	with := func(cells []impl.Cell, roots ...int) impl.Heap {
		return heapWith(slices.Concat(cells, lost.Cells[len(cells):]), roots...)
	}
	return []sweepStep{
		{"get a reference", lost, 1, opGet(2, 0, 0), with(nil, 0, 1, 1), true},
		{"get a reference that is -1", lost, 1, opGet(0, 0, 1), with(nil, -1, 1), true},
		{"get from a root that is -1", lost, 1, opGet(0, 3, 0), lost, false},
		{"get from a place behind the last reference", lost, 3, opGet(0, 0, 2), lost, false},
		{"set a reference", lost, 2, opSet(0, 0, 1), with([]impl.Cell{usedCell(1, 1, 0)}, 0, 1), true},
		{"set a reference to -1", lost, 1, opSet(0, 3, 0), with([]impl.Cell{usedCell(1, -1, -1)}, 0, 1), true},
		{"set a reference of a cell without any", lost, 1, opSet(1, 0, 0), lost, false},
		{"set a reference of a root that is -1", lost, impl.MaxCells, opSet(2, 0, 0), lost, false},
		{"copy a root", lost, 1, opCopy(0, 1), with(nil, 1, 1), true},
		{"copy a root to itself", lost, 1, opCopy(3, 3), lost, true},
		{"drop a root", lost, 1, opDrop(0), with(nil, -1, 1), true},
		{"drop a root that is -1", lost, 3, opDrop(2), lost, true},
		{"change Data", lost, 1, opData(1, 9), with([]impl.Cell{lost.Cells[0], usedCell(9)}, 0, 1), true},
		{"change Data of a root that is -1", lost, 1, opData(2, 9), lost, false},
		{"an instruction that is not possible in a heap without cells", heapWith(nil), 1, opGet(0, 0, 0), heapWith(nil), false},
		{"a drop in a heap without cells", heapWith(nil), 1, opDrop(0), heapWith(nil), true},
	}
}

// P65: the results of single steps, written out.
func TestOneSweepStep(t *testing.T) {
	for _, c := range slices.Concat(stepsWithRoom(), stepsAfterSweeping(), stepsWithoutRoom(), stepsWithoutSweeping()) {
		if got, ok := impl.StepSweep(c.heap, c.limit, c.command); ok != c.ok || !sameHeap(got, c.want) {
			t.Errorf("%s: StepSweep(%v, %d, %v) = %v, %v, not %v, %v", c.name, c.heap, c.limit, c.command, got, ok, c.want, c.ok)
		}
	}
	for _, c := range slices.Concat(readingSteps(), writingSteps(), rootSteps()) {
		for limit := 1; limit <= impl.MaxCells; limit++ {
			if got, ok := impl.StepSweep(c.heap, limit, c.command); ok != c.ok || !sameHeap(got, c.want) {
				t.Errorf("%s: StepSweep(%v, %d, %v) = %v, %v, not %v, %v", c.name, c.heap, limit, c.command, got, ok, c.want, c.ok)
			}
		}
	}
}

// shownAfter returns a heap of which a program sees what it sees after an instruction that is possible: that of StepHeap, if there is room, and otherwise that of StepHeap with the cells that can be reached alone.
func shownAfter(h impl.Heap, o impl.Command) impl.Heap {
	next, ok := impl.StepHeap(h, o)
	if !ok {
		small, _ := heapOfView(viewOf(h))
		next, _ = impl.StepHeap(small, o)
	}
	return next
}

// checkShown fails unless StepSweep succeeds exactly if the instruction is possible and there is a place below the limit for what it makes at which no cell is reached; a program sees then what shownAfter returns, and otherwise the same; and there are not more cells than the limit, if there were not before. It tells whether the step succeeds.
func checkShown(t *testing.T, h impl.Heap, limit int, o impl.Command) bool {
	t.Helper()
	next, ok := impl.StepSweep(h, limit, o)
	reached := reachableOf(h)
	room := o.Op != impl.OpNew || len(h.Cells) < limit || slices.Contains(reached[:limit], false)
	if ok != (impl.CommandPossible(h, o) && room) {
		t.Fatalf("StepSweep(%v, %d, %v) = %v, %v", h, limit, o, next, ok)
	}
	if !validHeap(next) || len(next.Cells) > max(limit, len(h.Cells)) || len(next.Cells) < len(h.Cells) {
		t.Fatalf("StepSweep(%v, %d, %v) = %v, %v", h, limit, o, next, ok)
	}
	want := h
	if ok {
		want = shownAfter(h, o)
	}
	if !impl.SameView(next, want) || !slices.Equal(viewOf(next), viewOf(want)) {
		t.Fatalf("StepSweep(%v, %d, %v) = %v, %v, and a program sees %v", h, limit, o, next, ok, viewOf(want))
	}
	return ok
}

// P65: steps with sweeping show the same: if a step succeeds, a program sees what StepHeap shows, if there is room for that; there are not more cells than the limit, if there were not before.
func TestStepsWithSweepingShowTheSame(t *testing.T) {
	done, refused := 0, 0
	eachSweepStep(func(h impl.Heap, limit int, o impl.Command) {
		if checkShown(t, h, limit, o) {
			done++
		} else {
			refused++
		}
	})
	if done == 0 || refused == 0 {
		t.Errorf("%d steps succeed, and %d do not", done, refused)
	}
}

// checkPlaceOfNew fails unless OpNew uses the first place below the limit: at once, with all other cells as they are, or, if there is none, after CollectSweep; without one it leaves the swept heap. It tells which of the three it was.
func checkPlaceOfNew(t *testing.T, h impl.Heap, limit int, o impl.Command) int {
	t.Helper()
	next, ok := impl.StepSweep(h, limit, o)
	which, before := 0, h
	if impl.FreePlace(h) >= limit {
		which = 1
		before, _ = impl.CollectSweep(h)
	}
	place := impl.FreePlace(before)
	if place >= limit {
		if ok || !sameHeap(next, before) {
			t.Fatalf("StepSweep(%v, %d, %v) = %v, %v", h, limit, o, next, ok)
		}
		return 2
	}
	want := copyOf(before)
	want.Cells = slices.Concat(want.Cells[:place], []impl.Cell{usedCell(o.C, manyOf(-1, o.B)...)}, want.Cells[min(place+1, len(want.Cells)):])
	want.Roots[o.A] = place
	if !ok || !sameHeap(next, want) {
		t.Fatalf("StepSweep(%v, %d, %v) = %v, %v, not %v", h, limit, o, next, ok, want)
	}
	return which
}

// P64, P65: new cells are made at the place of FreePlace; only if that is not below the limit lost cells are freed before.
func TestNewCellsAreMadeAtFreePlaces(t *testing.T) {
	var seen [3]int
	eachSweepStep(func(h impl.Heap, limit int, o impl.Command) {
		if o.Op == impl.OpNew {
			seen[checkPlaceOfNew(t, h, limit, o)]++
		}
	})
	if slices.Contains(seen[:], 0) {
		t.Errorf("%d new cells were made at once, %d after sweeping, and for %d there was no place", seen[0], seen[1], seen[2])
	}
}

// P65: for every limit there is room for a new cell below it until so many cells can be reached, and then there is none, whether cells are lost behind it or not.
func TestEveryLimit(t *testing.T) {
	for limit := 1; limit <= impl.MaxCells; limit++ {
		h := heapWith(nil)
		for number := range limit {
			next, ok := impl.StepSweep(h, limit, opNew(1, 1, number))
			if !ok || len(next.Cells) != number+1 || next.Roots[1] != number {
				t.Fatalf("StepSweep(%v, %d) = %v, %v", h, limit, next, ok)
			}
			next, _ = impl.StepSweep(next, limit, opSet(1, 0, 0))
			h, _ = impl.StepSweep(next, limit, opCopy(0, 1))
		}
		for cells := limit; cells <= impl.MaxCells; cells++ {
			full := heapWith(slices.Concat(h.Cells, slices.Repeat([]impl.Cell{usedCell(9, 0)}, cells-limit)), limit-1)
			swept := heapWith(slices.Concat(h.Cells, make([]impl.Cell, cells-limit)), limit-1)
			for root := range impl.MaxRoots {
				if got, ok := impl.StepSweep(full, limit, opNew(root, 3, 7)); ok || !sameHeap(got, swept) {
					t.Fatalf("StepSweep(%v, %d) = %v, %v", full, limit, got, ok)
				}
			}
			if limit == impl.MaxCells {
				continue
			}
			if got, ok := impl.StepSweep(full, limit+1, opNew(3, 0, 7)); !ok || got.Roots[3] != limit || len(got.Cells) != max(cells, limit+1) {
				t.Fatalf("StepSweep(%v, %d) = %v, %v", full, limit+1, got, ok)
			}
		}
	}
}

// leastLimitOf returns the least limit with which a valid program comes to its end: at every OpNew there must be a cell beside those that can be reached in a heap without end.
func leastLimitOf(list []impl.Command) int {
	least, h := 1, heapWith(nil)
	for _, o := range list {
		if o.Op == impl.OpNew {
			_, live := usedCellsOf(h)
			least = max(least, live+1)
		}
		h, _ = stepOf(h, o)
	}
	return least
}

// eachSweepRun calls check with the programs of eachProgram, each with limits: the least ones and the greatest ones, some between, and those around the least one with which the program comes to its end.
func eachSweepRun(check func(list []impl.Command, limit int)) {
	eachProgram(func(list []impl.Command) {
		limits := []int{1, 2, 3, 4, impl.MaxCells}
		if len(list) > 3 {
			least := leastLimitOf(list)
			limits = append(limits, 5, 6, 8, 12, 20, impl.MaxCells-1, least-1, least, least+1)
		}
		limits = slices.DeleteFunc(limits, func(limit int) bool { return !validLimit(limit) })
		slices.Sort(limits)
		for _, limit := range slices.Compact(limits) {
			check(list, limit)
		}
	})
}

// TestSweepRunsAreTheDefinition: for many programs and limits RunSweep is what the chapter defines.
func TestSweepRunsAreTheDefinition(t *testing.T) {
	ended, stopped := 0, 0
	eachSweepRun(func(list []impl.Command, limit int) {
		if checkSweepRun(t, list, limit) {
			ended++
		} else {
			stopped++
		}
	})
	if ended == 0 || stopped == 0 {
		t.Errorf("%d programs came to their end, and %d did not", ended, stopped)
	}
}

// P65: the heap after a program is that after its last instruction, in the heap after those before it; it stops at the first OpNew for which there is no cell.
func TestSweepRunsGoStepByStep(t *testing.T) {
	for turn, list := range longPrograms() {
		for _, limit := range []int{1, 2, 3, 5, 7, 12, 1 + turn%impl.MaxCells, impl.MaxCells} {
			h, ended := impl.EmptyHeap(), true
			for k, o := range list {
				if ended {
					var ok bool
					h, ok = impl.StepSweep(h, limit, o)
					ended = ok || o.Op != impl.OpNew
				}
				if got, ok := impl.RunSweep(list[:k+1], limit); ok != ended || !sameHeap(got, h) {
					t.Fatalf("RunSweep(%v, %d) = %v, %v, not %v, %v", list[:k+1], limit, got, ok, h, ended)
				}
			}
		}
	}
}

// P65: a program comes to its end exactly if there is always a cell beside those that can be reached, and a program sees then the same as without freeing; otherwise it sees at the end what it sees without freeing before the OpNew for which there is no cell, and so many cells as the limit can be reached.
func TestProgramsSeeTheSameWithSweeping(t *testing.T) {
	ended, stopped, freed := 0, 0, 0
	eachSweepRun(func(list []impl.Command, limit int) {
		got, ok := impl.RunSweep(list, limit)
		if ok != (limit >= leastLimitOf(list)) || len(got.Cells) > limit {
			t.Fatalf("RunSweep(%v, %d) = %v, %v", list, limit, got, ok)
		}
		before := list
		if !ok {
			at := slices.IndexFunc(rangeOf(0, len(list)), func(k int) bool { return leastLimitOf(list[:k]) > limit })
			before = list[:at-1]
			if len(got.Cells) != limit || slices.Contains(reachableOf(got), false) {
				t.Fatalf("RunSweep(%v, %d) = %v, %v, of which not all can be reached", list, limit, got, ok)
			}
			stopped++
		}
		all := impl.RunHeap(before)
		if !impl.SameView(got, all) || !slices.Equal(viewOf(got), viewOf(all)) {
			t.Fatalf("RunSweep(%v, %d) = %v, %v, and RunHeap shows %v", list, limit, got, ok, all)
		}
		if ok {
			ended++
		}
		if usedCount(got) < usedCount(all) {
			freed++
		}
	})
	if ended == 0 || stopped == 0 || freed == 0 {
		t.Errorf("%d programs came to their end, %d did not, and %d have freed cells", ended, stopped, freed)
	}
}

// P65: with a limit that is not less than the number of new cells nothing is freed: the heap is that of RunHeap.
func TestWideLimitsFreeNothing(t *testing.T) {
	eachProgram(func(list []impl.Command) {
		news := 0
		for _, o := range list {
			if o.Op == impl.OpNew {
				news++
			}
		}
		for _, limit := range []int{max(1, news), impl.MaxCells} {
			if got, ok := impl.RunSweep(list, limit); !ok || !sameHeap(got, impl.RunHeap(list)) {
				t.Fatalf("RunSweep(%v, %d) = %v, %v", list, limit, got, ok)
			}
		}
	})
}

type sweepRun struct {
	name  string
	list  []impl.Command
	limit int
	want  impl.Heap
	ok    bool
}

// growingRow returns a program of a number of new cells, each of which but the first one refers to the one before it; the roots 0 and 1 lead to the last one.
func growingRow(cells int) []impl.Command {
	var list []impl.Command
	for k := range cells {
		list = append(list, opNew(1, 1, k), opSet(1, 0, 0), opCopy(0, 1))
	}
	return list
}

// runsInTurn are programs that make cells only.
func runsInTurn() []sweepRun {
	none := make([]impl.Cell, impl.MaxCells)
	three := []impl.Command{opNew(0, 0, 1), opNew(0, 0, 2), opNew(0, 0, 3)}
	one, four := make([]impl.Command, impl.MaxCommands), make([]impl.Command, impl.MaxCommands)
	var ones, fours []impl.Cell
	for k := range impl.MaxCommands {
		one[k], four[k] = opNew(0, 0, k), opNew(k%4, 1, k)
		ones, fours = append(ones, usedCell(k)), append(fours, usedCell(k, -1))
	}
	return []sweepRun{
		{"three cells as one root", three, 1, heapWith([]impl.Cell{usedCell(1)}, 0), false},
		{"three cells as one root", three, 2, heapWith([]impl.Cell{usedCell(3), usedCell(2)}, 0), true},
		{"three cells as one root", three, 3, heapWith([]impl.Cell{usedCell(1), usedCell(2), usedCell(3)}, 2), true},
		{"three cells as one root", three, impl.MaxCells, heapWith([]impl.Cell{usedCell(1), usedCell(2), usedCell(3)}, 2), true},
		{"three cells as three roots", []impl.Command{opNew(0, 0, 1), opNew(2, 1, 2), opNew(1, 2, 3)}, 2, heapWith([]impl.Cell{usedCell(1), usedCell(2, -1)}, 0, -1, 1), false},
		{"three cells as three roots", []impl.Command{opNew(0, 0, 1), opNew(2, 1, 2), opNew(1, 2, 3)}, 3, heapWith([]impl.Cell{usedCell(1), usedCell(2, -1), usedCell(3, -1, -1)}, 0, 2, 1), true},
		{"MaxCommands cells as one root", one, 1, heapWith(ones[:1], 0), false},
		{"MaxCommands cells as one root", one, 2, heapWith(ones[38:], 1), true},
		{"MaxCommands cells as one root", one, 3, heapWith([]impl.Cell{ones[39], {}, ones[38]}, 0), true},
		{"MaxCommands cells as one root", one, 39, heapWith(slices.Concat(ones[39:], none[:37], ones[38:39]), 0), true},
		{"MaxCommands cells as one root", one, 40, heapWith(ones, 39), true},
		{"MaxCommands cells as four roots in turn", four, 3, heapWith(fours[:3], 0, 1, 2), false},
		{"MaxCommands cells as four roots in turn", four, 4, heapWith(fours[:4], 0, 1, 2, 3), false},
		{"MaxCommands cells as four roots in turn", four, 5, heapWith(fours[35:], 1, 2, 3, 4), true},
	}
}

// runsWithCycles are programs that make cells refer to each other.
func runsWithCycles() []sweepRun {
	self := []impl.Command{opNew(0, 1, 9), opSet(0, 0, 0)}
	pair := []impl.Command{opNew(0, 1, 1), opNew(1, 1, 2), opSet(0, 1, 0), opSet(1, 0, 0), opDrop(1)}
	kept, both := []impl.Cell{usedCell(9, 0)}, []impl.Cell{usedCell(1, 1), usedCell(2, 0)}
	return []sweepRun{
		{"a cell that refers to itself, under a new one", slices.Concat(self, []impl.Command{opNew(0, 0, 3)}), 1, heapWith(kept, 0), false},
		{"a cell that refers to itself, under a new one", slices.Concat(self, []impl.Command{opNew(0, 0, 3)}), 2, heapWith([]impl.Cell{kept[0], usedCell(3)}, 1), true},
		{"a cell that refers to itself, and is dropped", slices.Concat(self, []impl.Command{opDrop(0), opNew(2, 0, 3)}), 1, heapWith([]impl.Cell{usedCell(3)}, -1, -1, 0), true},
		{"a cell that refers to itself, and is dropped", slices.Concat(self, []impl.Command{opDrop(0), opNew(2, 0, 3)}), 2, heapWith([]impl.Cell{kept[0], usedCell(3)}, -1, -1, 1), true},
		{"a cell that refers to itself, dropped at the end", slices.Concat(self, []impl.Command{opDrop(0)}), 1, heapWith(kept), true},
		{"cells that refer to themselves, one after the other", slices.Repeat(self, 20), 1, heapWith(kept, 0), false},
		{"cells that refer to themselves, one after the other", slices.Repeat(self, 20), 2, heapWith([]impl.Cell{kept[0], usedCell(9, 1)}, 1), true},
		{"two cells that refer to each other", slices.Concat(pair, []impl.Command{opNew(2, 0, 3)}), 2, heapWith(both, 0), false},
		{"two cells that refer to each other", slices.Concat(pair, []impl.Command{opNew(2, 0, 3)}), 3, heapWith([]impl.Cell{both[0], both[1], usedCell(3)}, 0, -1, 2), true},
		{"two cells that refer to each other, and are dropped", slices.Concat(pair, []impl.Command{opDrop(0), opNew(2, 0, 3)}), 2, heapWith([]impl.Cell{usedCell(3), {}}, -1, -1, 0), true},
		{"two cells that refer to each other, and are dropped after the new one", slices.Concat(pair, []impl.Command{opNew(2, 0, 3), opDrop(0)}), 2, heapWith(both, 0), false},
		{"two cells that refer to each other, and are dropped before two new ones", slices.Concat(pair, []impl.Command{opDrop(0), opNew(2, 0, 3), opNew(3, 0, 4)}), 2, heapWith([]impl.Cell{usedCell(3), usedCell(4)}, -1, -1, 0, 1), true},
	}
}

// runsInRows are programs that make a row grow, and that have instructions that are not possible.
func runsInRows() []sweepRun {
	odd := []impl.Command{opData(1, 9), opNew(0, 0, 1), opSet(0, 0, 0), opGet(0, 1, 0), opData(2, 3)}
	last := slices.Concat(odd, []impl.Command{opNew(1, 0, 2), opData(0, 8)})
	return []sweepRun{
		{"no instructions", nil, 1, heapWith(nil), true},
		{"an empty list of instructions", []impl.Command{}, impl.MaxCells, heapWith(nil), true},
		{"one new cell", []impl.Command{opNew(2, 1, 4)}, 1, heapWith([]impl.Cell{usedCell(4, -1)}, -1, -1, 0), true},
		{"a new cell after a drop", []impl.Command{opNew(0, 2, 1), opDrop(0), opNew(3, 1, 2)}, 1, heapWith([]impl.Cell{usedCell(2, -1)}, -1, -1, -1, 0), true},
		{"a new cell before a drop", []impl.Command{opNew(0, 2, 1), opNew(3, 1, 2), opDrop(0)}, 1, heapWith([]impl.Cell{usedCell(1, -1, -1)}, 0), false},
		{"a row of 13 cells", growingRow(13), 13, heapWith(chainOf(13), 12, 12), true},
		{"a row of 13 cells", growingRow(13), 12, heapWith(chainOf(12), 11, 11), false},
		{"a row of 13 cells", growingRow(13), 1, heapWith(chainOf(1), 0, 0), false},
		{"a row that is followed to its end before a new cell", slices.Concat(growingRow(3), []impl.Command{opDrop(1), opGet(0, 0, 0), opGet(0, 0, 0), opNew(2, 0, 9)}), 3, heapWith([]impl.Cell{usedCell(0, -1), usedCell(9), {}}, 0, -1, 1), true},
		{"a row that is followed to its second cell before two new cells", slices.Concat(growingRow(3), []impl.Command{opDrop(1), opGet(0, 0, 0), opNew(2, 0, 9), opNew(3, 0, 8)}), 3, heapWith([]impl.Cell{usedCell(0, -1), usedCell(1, 0), usedCell(9)}, 1, -1, 2), false},
		{"instructions that are not possible alone", []impl.Command{opGet(0, 0, 0), opSet(3, 3, 2), opData(1, 1)}, 1, heapWith(nil), true},
		{"instructions that are not possible between others and at the end", odd, 1, heapWith([]impl.Cell{usedCell(1)}, 0), true},
		{"instructions that would be possible behind the one for which there is no cell", last, 1, heapWith([]impl.Cell{usedCell(1)}, 0), false},
		{"instructions that are not possible between new cells", last, 2, heapWith([]impl.Cell{usedCell(8), usedCell(2)}, 0, 1), true},
		{"MaxCommands instructions that are not possible", slices.Repeat([]impl.Command{opGet(0, 0, 0)}, impl.MaxCommands), 1, heapWith(nil), true},
		{"the last instruction makes the cell for which there is none", []impl.Command{opNew(0, 0, 1), opCopy(1, 0), opDrop(0), opNew(0, 0, 2)}, 1, heapWith([]impl.Cell{usedCell(1)}, -1, 0), false},
	}
}

// P65: the heaps after some programs with some limits, written out.
func TestOneSweepRun(t *testing.T) {
	for _, c := range slices.Concat(runsInTurn(), runsWithCycles(), runsInRows()) {
		if got, ok := impl.RunSweep(c.list, c.limit); ok != c.ok || !sameHeap(got, c.want) {
			t.Errorf("%s: RunSweep(%v, %d) = %v, %v, not %v, %v", c.name, c.list, c.limit, got, ok, c.want, c.ok)
		}
	}
	for _, c := range writtenPrograms() {
		if got, ok := impl.RunSweep(c.list, impl.MaxCells); !ok || !sameHeap(got, c.want) {
			t.Errorf("%s: RunSweep(%v, MaxCells) = %v, %v, not %v", c.name, c.list, got, ok, c.want)
		}
	}
}

// P65: a row of every length comes to its end with exactly so many cells, and not with one less.
func TestLimitsOfRows(t *testing.T) {
	for cells := 1; 3*cells <= impl.MaxCommands; cells++ {
		for limit := 1; limit <= impl.MaxCells; limit++ {
			last := min(cells, limit)
			want := heapWith(chainOf(last), last-1, last-1)
			if got, ok := impl.RunSweep(growingRow(cells), limit); ok != (limit >= cells) || !sameHeap(got, want) {
				t.Fatalf("RunSweep(%v, %d) = %v, %v", growingRow(cells), limit, got, ok)
			}
		}
	}
}

// P65: an instruction that is not possible is passed over, wherever it stands.
func TestSweptInstructionsArePassedOver(t *testing.T) {
	commands := commandsWith(0, 99)
	passed := 0
	for _, many := range []int{0, 1, 2, 5, 12, impl.MaxCommands - 1} {
		for turn := range 4 {
			list := mixedProgram(many, turn)
			for _, limit := range []int{leastLimitOf(list), impl.MaxCells} {
				want, ended := sweepRunOf(list, limit)
				for k := range many + 1 {
					before := runOf(list[:k])
					for _, o := range commands {
						if possibleCommand(before, o) {
							continue
						}
						passed++
						if got, ok := impl.RunSweep(slices.Insert(slices.Clone(list), k, o), limit); ok != ended || !sameHeap(got, want) {
							t.Fatalf("RunSweep(%v, %d) with %v before instruction %d = %v, %v, not %v", list, limit, o, k, got, ok, want)
						}
					}
				}
			}
		}
	}
	if passed == 0 {
		t.Error("no instruction was passed over")
	}
}

// P65: also in far more steps than a program has, with every limit, a program sees the same, and there is room as long as not as many cells as the limit can be reached.
func TestSweepingForLong(t *testing.T) {
	done, refused, swept := 0, 0, 0
	for limit := 1; limit <= impl.MaxCells; limit++ {
		h := heapWith(nil)
		for k := range 10 {
			for _, o := range mixedProgram(impl.MaxCommands, 10*limit+k) {
				checkSweepStep(t, h, limit, o)
				if checkShown(t, h, limit, o) {
					done++
				} else {
					refused++
				}
				next, _ := impl.StepSweep(h, limit, o)
				if usedCount(next) < usedCount(h) {
					swept++
				}
				h = next
			}
		}
	}
	if done == 0 || refused == 0 || swept == 0 {
		t.Errorf("%d steps succeed, %d do not, and %d freed cells", done, refused, swept)
	}
}

// P64: there are no places in heaps that are invalid in any way; and P4, P63, P65: such heaps are not swept, whatever the marks are, and have no step, whatever the limit and the instruction are.
func TestSweepingOfInvalidHeaps(t *testing.T) {
	commands := slices.Concat(commandsWith(42), []impl.Command{{}, {Op: impl.OpNew, A: -1}, {Op: 7}})
	for _, h := range invalidHeaps() {
		checkNoCollectSweep(t, h)
		cells := len(h.Cells)
		for _, marks := range [][]bool{nil, {}, make([]bool, cells), usedFlags(h), slices.Repeat([]bool{true}, cells), make([]bool, cells+1)} {
			checkNoSweep(t, h, marks)
		}
		for _, o := range commands {
			for _, limit := range []int{-1, 0, 1, 3, 4, 5, impl.MaxCells, impl.MaxCells + 1} {
				checkNoSweepStep(t, h, limit, o)
			}
		}
	}
}

// TestSweepingOfOtherTargets: with a root or a reference to anything that is no used cell, wherever it stands, and even in a cell that would be freed, there are no results.
func TestSweepingOfOtherTargets(t *testing.T) {
	for _, h := range wideHeaps() {
		targets := append([]int{len(h.Cells)}, oddTargets...)
		if unused := slices.Index(usedFlags(h), false); unused != -1 {
			targets = append(targets, unused)
		}
		other, reached := copyOf(h), reachableOf(h)
		eachPlace(other, func(place *int) {
			before := *place
			for _, target := range targets {
				*place = target
				checkNoCollectSweep(t, other)
				checkNoSweep(t, other, reached)
				checkNoSweepStep(t, other, 1, opNew(0, 1, 5))
				checkNoSweepStep(t, other, impl.MaxCells, opDrop(0))
			}
			*place = before
		})
	}
}

// P63: marks for fewer or for more cells than there are do not fit, whatever they are.
func TestMarksForOtherNumbersOfCells(t *testing.T) {
	for _, h := range validHeapsOfAllSizes() {
		checkSweep(t, h, reachableOf(h))
		eachOtherLength(reachableOf(h), func(marks []bool) { checkNoSweep(t, h, marks) })
	}
}

// P65: an invalid instruction has no step, whatever the heap and the limit are, also where there is no room.
func TestInvalidInstructionsWithSweeping(t *testing.T) {
	odd := oddCommands()
	heaps := slices.Concat(fullHeaps(), []impl.Heap{heapWith(nil), heapWith([]impl.Cell{{}}), heapWith([]impl.Cell{usedCell(1)}), heapWith([]impl.Cell{usedCell(5, 0, 0, 0)}, 0, 0, 0, 0), heapWith([]impl.Cell{usedCell(1, 1), usedCell(2, 0, -1)}, 1, -1, 0)})
	for _, h := range heaps {
		for _, o := range odd {
			for _, limit := range []int{0, 1, 2, impl.MaxCells} {
				checkNoSweepStep(t, h, limit, o)
			}
		}
	}
	for _, c := range commandNumbers() {
		if !c.want {
			checkNoSweepStep(t, heapWith([]impl.Cell{usedCell(5, 0, 0, 0)}, 0, 0, 0, 0), 1, c.command)
			checkNoSweepRun(t, []impl.Command{c.command}, 1)
		}
	}
}

// P65: with a limit below 1 or above MaxCells there is no step and no program, whether the instructions need a cell or not, and whether they are possible or not.
func TestOtherLimits(t *testing.T) {
	commands := commandsWith(42)
	heaps := []impl.Heap{heapWith(nil), heapWith([]impl.Cell{{}}), heapWith([]impl.Cell{usedCell(1)}), heapWith([]impl.Cell{usedCell(5, 0, 0, 0)}, 0, 0, 0, 0), heapWith(make([]impl.Cell, impl.MaxCells)), heapWith(chainOf(impl.MaxCells), impl.MaxCells-1)}
	for _, limit := range oddLimits {
		for _, h := range heaps {
			for _, o := range commands {
				checkNoSweepStep(t, h, limit, o)
			}
		}
		for _, list := range [][]impl.Command{nil, {}, {opDrop(0)}, {opGet(0, 0, 0)}, {opNew(0, 0, 0)}, growingRow(13), slices.Repeat([]impl.Command{opNew(0, 1, 2)}, impl.MaxCommands)} {
			checkNoSweepRun(t, list, limit)
		}
	}
	for _, limit := range []int{1, 2, 39, 40} {
		for _, h := range heaps {
			for _, o := range commands {
				checkSweepStep(t, h, limit, o)
			}
		}
		checkSweepRun(t, nil, limit)
		checkSweepRun(t, growingRow(13), limit)
	}
}

// P65: programs that are too long, or have an invalid instruction, wherever it stands, even behind one for which there is no cell, have no heap.
func TestInvalidProgramsWithSweeping(t *testing.T) {
	limits := []int{1, 2, impl.MaxCells}
	eachInvalidProgram(func(list []impl.Command) {
		for _, limit := range limits {
			checkNoSweepRun(t, list, limit)
		}
	})
	for _, o := range []impl.Command{opNew(0, 3, 0), opGet(0, 0, 0), opSet(0, 0, 0), opCopy(0, 0), opDrop(0), opData(0, 0)} {
		for many := range impl.MaxCommands + 1 {
			for _, limit := range limits {
				checkSweepRun(t, slices.Repeat([]impl.Command{o}, many), limit)
			}
		}
	}
	checkNoSweepRun(t, []impl.Command{opNew(0, 0, 0), opNew(1, 0, 0), {}}, 1)
}

// checkSweepingOf compares the functions of the chapter that take a heap with their definitions, for a heap that may be valid or not.
func checkSweepingOf(t *testing.T, h impl.Heap) {
	t.Helper()
	cells := len(h.Cells)
	checkCollectSweep(t, h)
	for _, marks := range [][]bool{nil, make([]bool, cells), usedFlags(h), slices.Repeat([]bool{true}, cells), make([]bool, cells+1)} {
		checkSweep(t, h, marks)
	}
	for _, o := range []impl.Command{opNew(0, 2, 9), opGet(1, 0, 0), opSet(0, 1, 0), opCopy(0, 2), opDrop(0), opData(0, 9)} {
		for _, limit := range []int{0, 1, 2, impl.MaxCells} {
			checkSweepStep(t, h, limit, o)
		}
	}
}

// TestSweepingReturnsForAllNumbers: for every number of a root, a reference, Data, an instruction or a limit, and for every length, the functions return what the chapter gives.
func TestSweepingReturnsForAllNumbers(t *testing.T) {
	numbers := manyNumbers()
	few := heapWith([]impl.Cell{usedCell(0, 0), {}, usedCell(99, -1, 2, 0)}, 0, -1, 2)
	for _, o := range []impl.Command{opNew(0, 1, 5), opGet(1, 2, 2), opSet(2, 1, 0), opCopy(2, 0), opDrop(0), opData(2, 50)} {
		for _, limit := range numbers {
			checkSweepStep(t, few, limit, o)
			checkSweepStep(t, heapWith(chainOf(impl.MaxCells), impl.MaxCells-1), limit, o)
			checkSweepRun(t, []impl.Command{opNew(0, 3, 1), opCopy(2, 0), o}, limit)
		}
		eachNumber(o, func(o *impl.Command, place *int) {
			for _, number := range numbers {
				*place = number
				checkSweepStep(t, few, 1, *o)
				checkSweepStep(t, heapWith(nil), impl.MaxCells, *o)
				checkSweepRun(t, []impl.Command{opNew(0, 3, 1), opCopy(1, 0), opCopy(2, 0), opCopy(3, 0), *o}, 1)
			}
		})
	}
	for _, h := range []impl.Heap{copyOf(few), trialHeap()} {
		change := func(place *int) {
			before := *place
			for _, number := range numbers {
				*place = number
				checkSweepingOf(t, h)
			}
			*place = before
		}
		eachPlace(h, change)
		for number := range h.Cells {
			change(&h.Cells[number].Data)
		}
	}
	for many := range 140 {
		checkSweepingOf(t, heapWith(make([]impl.Cell, many)))
		checkSweepingOf(t, heapWith(slices.Repeat([]impl.Cell{usedCell(1, 0)}, many)))
		checkSweepingOf(t, heapWith(chainOf(many), many-1))
		checkSweepingOf(t, heapWith([]impl.Cell{usedCell(0, manyOf(0, many)...)}))
		checkSweepingOf(t, impl.Heap{Cells: []impl.Cell{usedCell(0)}, Roots: manyOf(0, many)})
		checkSweepingOf(t, impl.Heap{Cells: []impl.Cell{usedCell(0)}, Roots: manyOf(-1, many)})
	}
	checkSweepingOf(t, heapWith(slices.Repeat([]impl.Cell{usedCell(1, 0)}, 100000), 0))
}

// TestSweepingOfExtremeNumbers: for heaps, instructions and limits whose numbers are all very large or very small the functions return what the chapter gives.
func TestSweepingOfExtremeNumbers(t *testing.T) {
	extremes := []int{math.MinInt, math.MinInt + 1, -1 << 32, -2, -1, 0, 1, 1 << 32, math.MaxInt - 1, math.MaxInt}
	h := heapWith([]impl.Cell{usedCell(5, 0, 0, 0)}, 0, 0, 0, 0)
	for _, x := range extremes {
		for _, y := range extremes {
			for _, z := range extremes {
				for _, used := range []bool{false, true} {
					c := impl.Cell{Used: used, Data: x, Refs: []int{y}}
					checkSweepingOf(t, heapWith([]impl.Cell{c}, z))
					checkSweepingOf(t, heapWith([]impl.Cell{c, usedCell(0, 0)}, -1, z))
					checkSweepingOf(t, heapWith([]impl.Cell{usedCell(0), c}, z))
				}
				for op := impl.OpNew - 1; op <= impl.OpData+1; op++ {
					o := impl.Command{Op: op, A: x, B: y, C: z}
					for _, limit := range []int{x, 1, impl.MaxCells} {
						checkSweepStep(t, h, limit, o)
						checkSweepRun(t, []impl.Command{opNew(0, 3, 1), o}, limit)
					}
				}
				checkNoSweep(t, impl.Heap{Roots: []int{x, y, z}}, nil)
			}
		}
	}
}

// P4, P63, P64, P65: nil and empty slices are the same.
func TestNilAndEmptySlicesOfSweeping(t *testing.T) {
	for _, cells := range [][]impl.Cell{nil, {}} {
		for _, marks := range [][]bool{nil, {}} {
			if got, freed := impl.SweepCells(heapWith(cells), marks); freed != 0 || !sameHeap(got, heapWith(nil)) {
				t.Fatalf("SweepCells of a heap without cells = %v, %d", got, freed)
			}
		}
		checkSweepingOf(t, heapWith(cells))
	}
	for _, refs := range [][]int{nil, {}} {
		h := heapWith([]impl.Cell{{Refs: refs}, {Used: true, Refs: refs}, usedCell(1, 1)}, 1)
		checkSweepingOf(t, h)
		if _, freed := impl.CollectSweep(h); freed != 1 {
			t.Fatalf("CollectSweep(%v) has freed %d cells", h, freed)
		}
	}
	for _, list := range [][]impl.Command{nil, {}} {
		if got, ok := impl.RunSweep(list, 1); !ok || !sameHeap(got, heapWith(nil)) {
			t.Fatalf("RunSweep without instructions = %v, %v", got, ok)
		}
	}
}

// TestSweepingOfHeapsThatShareMemory: the slices of a heap may be the same ones; nevertheless only lost cells are freed, and only what the instruction names changes.
func TestSweepingOfHeapsThatShareMemory(t *testing.T) {
	refs := []int{1, -1, 0, -1}
	cells := []impl.Cell{usedCell(1, refs[:3]...), usedCell(2, refs[1:]...), usedCell(3, refs[:3]...), usedCell(4, refs[:3]...)}
	for _, h := range []impl.Heap{{Cells: cells, Roots: refs}, heapWith(cells, 0, 1, 2), heapWith(cells)} {
		before := copyOf(h)
		checkSweepingOf(t, h)
		for _, o := range commandsWith(42) {
			for limit := 1; limit <= 5; limit++ {
				checkSweepStep(t, h, limit, o)
			}
		}
		if !sameHeap(h, before) {
			t.Fatalf("%v became %v", before, h)
		}
	}
}

// sweepResults are the results of the chapter's functions for one heap.
type sweepResults struct {
	swept, collected, stepped impl.Heap
	freed, lost, place        int
	ok                        bool
}

// resultsOfSweeping calls the functions of the chapter that take a heap.
func resultsOfSweeping(h impl.Heap, marks []bool, limit int, o impl.Command) sweepResults {
	var r sweepResults
	r.swept, r.freed = impl.SweepCells(h, marks)
	r.collected, r.lost = impl.CollectSweep(h)
	r.stepped, r.ok = impl.StepSweep(h, limit, o)
	r.place = impl.FreePlace(h)
	return r
}

// same compares contents.
func (r sweepResults) same(other sweepResults) bool {
	heaps := sameHeap(r.swept, other.swept) && sameHeap(r.collected, other.collected) && sameHeap(r.stepped, other.stepped)
	return heaps && r.freed == other.freed && r.lost == other.lost && r.place == other.place && r.ok == other.ok
}

// checkSweepsShareNothing fails if the functions of the chapter change an argument or the spare capacity of its slices, or if overwriting their results, with the spare capacity, changes an argument or another result.
func checkSweepsShareNothing(t *testing.T, h impl.Heap, marks []bool, limit int, o impl.Command) {
	t.Helper()
	s := spareOf(h)
	whole := slices.Concat(marks, []bool{true, false, true})
	part := whole[:len(marks)]
	before, beforeMarks := s.state(), slices.Clone(whole)
	checkUnchanged := func() {
		t.Helper()
		if !slices.Equal(s.state(), before) || !slices.Equal(whole, beforeMarks) {
			t.Fatalf("%v with %v became %v with %v", h, beforeMarks, s.heap, whole)
		}
	}
	r, other := resultsOfSweeping(s.heap, part, limit, o), resultsOfSweeping(s.heap, part, limit, o)
	want := r
	want.swept, want.collected, want.stepped = copyOf(r.swept), copyOf(r.collected), copyOf(r.stepped)
	checkUnchanged()
	overwriteHeap(t, r.swept)
	checkUnchanged()
	if !sameHeap(r.collected, want.collected) || !sameHeap(r.stepped, want.stepped) {
		t.Fatalf("results of %v share memory", h)
	}
	overwriteHeap(t, r.collected)
	if !sameHeap(r.stepped, want.stepped) {
		t.Fatalf("results of %v share memory", h)
	}
	overwriteHeap(t, r.stepped)
	checkUnchanged()
	if !other.same(want) || !resultsOfSweeping(s.heap, part, limit, o).same(want) {
		t.Fatalf("results of %v share memory", h)
	}
}

// TestSweepsShareNothing: no argument changes, valid or not, whether cells are freed or the heap is returned unchanged, not even when the results are overwritten, and neither does another result.
func TestSweepsShareNothing(t *testing.T) {
	few := []impl.Command{opNew(1, 3, 8), opGet(1, 0, 0), opGet(3, 3, 2), opSet(0, 1, 0), opCopy(1, 0), opDrop(0), opData(0, 8), opData(3, 8), {}}
	check := func(h impl.Heap) {
		for _, marks := range marksFor(h) {
			for limit := range 4 {
				checkSweepsShareNothing(t, h, marks, limit, few[0])
			}
		}
		for _, o := range few[1:] {
			checkSweepsShareNothing(t, h, reachableOf(h), 1, o)
		}
	}
	eachHeapOf(2, 2, 1, check)
	eachHeapOf(3, 1, 1, check)
	for _, h := range slices.Concat(validHeapsOfAllSizes(), oneUnused()) {
		for _, o := range few {
			for _, limit := range []int{0, 1, max(1, len(h.Cells)-1), max(1, len(h.Cells)), impl.MaxCells} {
				checkSweepsShareNothing(t, h, reachableOf(h), limit, o)
			}
		}
		for _, marks := range marksFor(h) {
			checkSweepsShareNothing(t, h, marks, 1, few[0])
		}
	}
	for _, h := range invalidHeaps() {
		for _, o := range few {
			checkSweepsShareNothing(t, h, usedFlags(h), impl.MaxCells, o)
		}
	}
	for _, c := range slices.Concat(stepsWithRoom(), stepsAfterSweeping(), stepsWithoutRoom(), stepsWithoutSweeping()) {
		checkSweepsShareNothing(t, c.heap, usedFlags(c.heap), c.limit, c.command)
	}
}

// TestLaterSweepStepsChangeNothing: the heaps before and after every instruction of a program stay as they are while it goes on, also if two programs go on from the same one.
func TestLaterSweepStepsChangeNothing(t *testing.T) {
	for turn, list := range longPrograms() {
		limit := 1 + turn%impl.MaxCells
		var all, states []impl.Heap
		keep := func(h impl.Heap) {
			all, states = append(all, h), append(states, copyOf(h))
		}
		h := impl.EmptyHeap()
		for _, o := range list {
			for _, aside := range []impl.Command{opNew(0, 2, 77), opSet(0, 0, 0), opData(0, 78), opDrop(0)} {
				other, _ := impl.StepSweep(h, limit, aside)
				keep(other)
			}
			swept, _ := impl.CollectSweep(h)
			keep(swept)
			h, _ = impl.StepSweep(h, limit, o)
			keep(h)
		}
		for k := range all {
			if !sameHeap(all[k], states[k]) {
				t.Fatalf("while %v ran %v became %v", list, states[k], all[k])
			}
		}
	}
}

// TestSweepRunsShareNothing: no program changes, valid or not, whether it comes to its end or not, not even when the heap after it is overwritten, and neither does another result.
func TestSweepRunsShareNothing(t *testing.T) {
	check := func(list []impl.Command, limit int) {
		part, whole := withSpareCommands(list)
		before := slices.Clone(whole)
		h, ok := impl.RunSweep(part, limit)
		other, _ := impl.RunSweep(part, limit)
		want := copyOf(h)
		overwriteHeap(t, h)
		if !slices.Equal(whole, before) {
			t.Fatalf("the program %v became %v", before, whole)
		}
		if again, done := impl.RunSweep(part, limit); done != ok || !sameHeap(other, want) || !sameHeap(again, want) {
			t.Fatalf("results of the program %v share memory", list)
		}
	}
	for _, list := range longPrograms() {
		for _, limit := range []int{0, 1, 3, impl.MaxCells} {
			check(list, limit)
			check(slices.Concat(list, []impl.Command{{}}), limit)
		}
	}
	check(slices.Repeat([]impl.Command{opNew(0, 3, 1)}, impl.MaxCommands+1), 1)
}
