package tests

import (
	"math"
	"slices"
	"testing"

	"loop.example/memorymanagers/impl"
)

// flagsWith returns so many flags, of which those of some cells are true.
func flagsWith(many int, cells ...int) []bool {
	flags := make([]bool, many)
	for _, number := range cells {
		flags[number] = true
	}
	return flags
}

// usedFlags returns for every cell of a heap whether it is used.
func usedFlags(h impl.Heap) []bool {
	flags := make([]bool, len(h.Cells))
	for number, c := range h.Cells {
		flags[number] = c.Used
	}
	return flags
}

// isUsed reports whether a number is that of a used cell of a heap.
func isUsed(h impl.Heap, number int) bool {
	return number != -1 && isTarget(h, number)
}

// trialCountsOf is what TrialCounts must return for a valid heap and a set of used cells of it, from its definition.
func trialCountsOf(h impl.Heap, set []bool) []int {
	counts := manyOf(-1, len(h.Cells))
	for number := range counts {
		if !set[number] {
			continue
		}
		outside := impl.Heap{Roots: h.Roots}
		for k, c := range h.Cells {
			if !set[k] {
				outside.Cells = append(outside.Cells, c)
			}
		}
		counts[number] = leadingTo(outside, number)
	}
	return counts
}

// cellsFromOf is what CellsFrom must return for a used cell of a valid heap, from its definition.
func cellsFromOf(h impl.Heap, from int) []bool {
	set := make([]bool, len(h.Cells))
	var enter func(number int)
	enter = func(number int) {
		if number == -1 || set[number] {
			return
		}
		set[number] = true
		for _, target := range h.Cells[number].Refs {
			enter(target)
		}
	}
	enter(from)
	return set
}

// deadCycleOf is what DeadCycle must return for a used cell of a valid heap, from its definition.
func deadCycleOf(h impl.Heap, suspect int) []bool {
	dead := cellsFromOf(h, suspect)
	for number, count := range trialCountsOf(h, dead) {
		if count <= 0 {
			continue
		}
		for k, led := range cellsFromOf(h, number) {
			dead[k] = dead[k] && !led
		}
	}
	return dead
}

// collectCyclesOf is what CollectCycles must return for a valid heap with counts, from its definition.
func collectCyclesOf(c impl.Counted) (impl.Counted, int) {
	next, freed := copyOf(c.Store), 0
	for number := range next.Cells {
		if !next.Cells[number].Used {
			continue
		}
		for k, dead := range deadCycleOf(next, number) {
			if dead {
				next.Cells[k] = impl.Cell{}
				freed++
			}
		}
	}
	return countedOf(next), freed
}

// checkTrialCounts compares TrialCounts with its definition, for valid arguments and for others.
func checkTrialCounts(t *testing.T, h impl.Heap, set []bool) {
	t.Helper()
	valid := validHeap(h) && len(set) == len(h.Cells)
	for number := range set {
		valid = valid && (!set[number] || h.Cells[number].Used)
	}
	var want []int
	if valid {
		want = trialCountsOf(h, set)
	}
	if got := impl.TrialCounts(h, set); !slices.Equal(got, want) {
		t.Fatalf("TrialCounts(%v, %v) = %v, not %v", h, set, got, want)
	}
}

// checkSuspect compares CellsFrom and DeadCycle with their definitions, for valid arguments and for others.
func checkSuspect(t *testing.T, h impl.Heap, number int) {
	t.Helper()
	var from, dead []bool
	if validHeap(h) && isUsed(h, number) {
		from, dead = cellsFromOf(h, number), deadCycleOf(h, number)
	}
	if got := impl.CellsFrom(h, number); !slices.Equal(got, from) {
		t.Fatalf("CellsFrom(%v, %d) = %v, not %v", h, number, got, from)
	}
	if got := impl.DeadCycle(h, number); !slices.Equal(got, dead) {
		t.Fatalf("DeadCycle(%v, %d) = %v, not %v", h, number, got, dead)
	}
}

// checkCollect compares CollectCycles with its definition, for valid heaps with counts and for others.
func checkCollect(t *testing.T, c impl.Counted) {
	t.Helper()
	want, freed := impl.Counted{}, -1
	if validCounted(c) {
		want, freed = collectCyclesOf(c)
	}
	if got, many := impl.CollectCycles(c); many != freed || !sameCounted(got, want) {
		t.Fatalf("CollectCycles(%v) = %v, %d, not %v, %d", c, got, many, want, freed)
	}
}

// setsOf returns sets of used cells of a heap: all of them if there are few cells, and otherwise the empty one, those of all used cells, of all that can be reached, of all that are lost, of every second one, of one half, and of what some cells lead to.
func setsOf(h impl.Heap) [][]bool {
	cells, used := len(h.Cells), usedFlags(h)
	var sets [][]bool
	add := func(in func(number int) bool) {
		set := slices.Clone(used)
		for number := range set {
			set[number] = set[number] && in(number)
		}
		sets = append(sets, set)
	}
	if cells <= 4 {
		for bits := range 1 << cells {
			add(func(number int) bool { return bits&(1<<number) != 0 })
		}
		return sets
	}
	reached := reachableOf(h)
	for _, in := range []func(number int) bool{
		func(number int) bool { return false },
		func(number int) bool { return true },
		func(number int) bool { return reached[number] },
		func(number int) bool { return !reached[number] },
		func(number int) bool { return number%2 == 0 },
		func(number int) bool { return number >= cells/2 },
		func(number int) bool { return number == cells-1 },
	} {
		add(in)
	}
	for _, number := range suspectsOf(h) {
		sets = append(sets, cellsFromOf(h, number))
	}
	return sets
}

// suspectsOf returns used cells of a heap: all if there are few cells, and otherwise some from everywhere.
func suspectsOf(h impl.Heap) []int {
	var suspects []int
	step := 1 + len(h.Cells)/8
	for number := range h.Cells {
		if h.Cells[number].Used && (number%step == 0 || number == len(h.Cells)-1) {
			suspects = append(suspects, number)
		}
	}
	return suspects
}

// eachGraph calls check with all heaps of a number of used cells, of which each refers to up to MaxRefs others, to each of them once at the most; a root leads to none of them, to the first one, or to the last one.
func eachGraph(cells int, check func(h impl.Heap)) {
	var choices [][]int
	for bits := range 1 << cells {
		var refs []int
		for number := range cells {
			if bits&(1<<number) != 0 {
				refs = append(refs, number)
			}
		}
		if len(refs) <= impl.MaxRefs {
			choices = append(choices, refs)
		}
	}
	list := make([]impl.Cell, cells)
	var choose func(number int)
	choose = func(number int) {
		if number == cells {
			for _, root := range []int{-1, 0, cells - 1} {
				check(heapWith(list, root))
			}
			return
		}
		for _, refs := range choices {
			list[number] = usedCell(number, refs...)
			choose(number + 1)
		}
	}
	choose(0)
}

// eachLinked calls check with the heaps of eachHeap, with all of some kinds that have 4 cells, and with some in which everything is lost.
func eachLinked(check func(h impl.Heap)) {
	eachHeap(check)
	eachHeapOf(4, 1, 1, check)
	eachGraph(4, check)
	for cells := range impl.MaxCells + 1 {
		for turn := range 20 {
			check(impl.Heap{Cells: mixedHeap(cells, turn+20).Cells, Roots: rootsOf()})
		}
	}
}

// TestCyclesAreTheDefinition: for all heaps of some kinds, and for others, the functions of the chapter return what it defines.
func TestCyclesAreTheDefinition(t *testing.T) {
	eachLinked(func(h impl.Heap) {
		for _, set := range setsOf(h) {
			checkTrialCounts(t, h, set)
		}
		for _, number := range append(suspectsOf(h), -1, len(h.Cells)) {
			checkSuspect(t, h, number)
		}
		checkCollect(t, impl.Counted{Store: h, Counts: refCountsOf(h)})
	})
}

type cycleCase struct {
	name    string
	heap    impl.Heap
	suspect int
	from    []int // the cells of CellsFrom
	counts  []int // TrialCounts for these cells
	dead    []int // the cells of DeadCycle
	left    []int // the cells that are used after CollectCycles
}

// reachedCycles are cases with cycles that can be reached.
func reachedCycles() []cycleCase {
	ring := []impl.Cell{usedCell(1, 1), usedCell(2, 2), usedCell(3, 0)}
	pair := []impl.Cell{usedCell(1, 1), usedCell(2, 0)}
	behind := []impl.Cell{usedCell(1, 1), usedCell(2, 2), usedCell(3, 1)}
	self, thrice := []impl.Cell{usedCell(1, 0)}, []impl.Cell{usedCell(1, 0, 0, 0)}
	eight := []impl.Cell{usedCell(1, 1, 2), usedCell(2, 0), usedCell(3, 0)}
	inner := []impl.Cell{usedCell(1, 1), usedCell(2, 2), usedCell(3, 1, 3), usedCell(4, 0)}
	return []cycleCase{
		{"a root leads to a cycle", heapWith(ring, 1), 0, []int{0, 1, 2}, []int{0, 1, 0}, nil, []int{0, 1, 2}},
		{"a root leads to a cycle, and its cell is the suspect", heapWith(ring, 1), 1, []int{0, 1, 2}, []int{0, 1, 0}, nil, []int{0, 1, 2}},
		{"all roots lead to a cycle, to the same cell and to others", heapWith(pair, 0, 1, 0, 0), 1, []int{0, 1}, []int{3, 1}, nil, []int{0, 1}},
		{"two roots lead to the same cell of a cycle", heapWith(pair, 1, -1, -1, 1), 0, []int{0, 1}, []int{0, 2}, nil, []int{0, 1}},
		{"a cell that can be reached leads to a cycle", heapWith(behind, 0), 2, []int{1, 2}, []int{-1, 1, 0}, nil, []int{0, 1, 2}},
		{"a cell that can be reached leads to a cycle, and is the suspect", heapWith(behind, 0), 0, []int{0, 1, 2}, []int{1, 0, 0}, nil, []int{0, 1, 2}},
		{"a cell that can be reached leads to a cell of a cycle with each of its references", heapWith([]impl.Cell{usedCell(1, 1), usedCell(2, 0), usedCell(3, 1, 1, 1)}, 2), 0, []int{0, 1}, []int{0, 3, -1}, nil, []int{0, 1, 2}},
		{"a cell that refers to itself, with a root", heapWith(self, -1, -1, -1, 0), 0, []int{0}, []int{1}, nil, []int{0}},
		{"a cell that refers to itself, with all roots", heapWith(self, 0, 0, 0, 0), 0, []int{0}, []int{4}, nil, []int{0}},
		{"a cell that refers to itself with each of its references, with a root", heapWith(thrice, -1, 0), 0, []int{0}, []int{1}, nil, []int{0}},
		{"cycles that share a cell, with a root behind it", heapWith(eight, 2), 1, []int{0, 1, 2}, []int{0, 0, 1}, nil, []int{0, 1, 2}},
		{"a cycle within another one, with a root in the inner one", heapWith(inner, 2), 0, []int{0, 1, 2, 3}, []int{0, 0, 1, 0}, nil, []int{0, 1, 2, 3}},
		{"a cycle within another one, with a root in the outer one", heapWith(inner, 3), 1, []int{0, 1, 2, 3}, []int{0, 0, 0, 1}, nil, []int{0, 1, 2, 3}},
		{"a suspect that can be reached, and to which lost cells lead", heapWith([]impl.Cell{usedCell(1, 1), usedCell(2, 0), usedCell(3, 0), usedCell(4, 3, 1)}, 0), 0, []int{0, 1}, []int{2, 1, -1, -1}, nil, []int{0, 1}},
		{"a cell that can be reached, without references", heapWith([]impl.Cell{usedCell(1), usedCell(2)}, 1), 1, []int{1}, []int{-1, 1}, nil, []int{1}},
	}
}

// lostCycles are cases with cycles that are lost, and to which nothing leads but themselves.
func lostCycles() []cycleCase {
	eight := []impl.Cell{usedCell(1, 1, 2), usedCell(2, 0), usedCell(3, 0)}
	inner := []impl.Cell{usedCell(1, 1), usedCell(2, 2), usedCell(3, 1, 3), usedCell(4, 0)}
	return []cycleCase{
		{"a cell that refers to itself", heapWith([]impl.Cell{usedCell(1, 0)}), 0, []int{0}, []int{0}, []int{0}, nil},
		{"a cell that refers to itself, and not with its first reference", heapWith([]impl.Cell{usedCell(1, -1, 0)}), 0, []int{0}, []int{0}, []int{0}, nil},
		{"a cell that refers to itself with each of its references", heapWith([]impl.Cell{usedCell(1, 0, 0, 0)}), 0, []int{0}, []int{0}, []int{0}, nil},
		{"two cells that refer to each other", heapWith([]impl.Cell{usedCell(1, 1), usedCell(2, 0)}), 1, []int{0, 1}, []int{0, 0}, []int{0, 1}, nil},
		{"two cells that refer to each other with all references", heapWith([]impl.Cell{usedCell(1, 1, 1, 1), usedCell(2, 0, 0, 0)}), 0, []int{0, 1}, []int{0, 0}, []int{0, 1}, nil},
		{"a cycle that ascends", heapWith([]impl.Cell{usedCell(1, 1), usedCell(2, 2), usedCell(3, 0)}), 1, []int{0, 1, 2}, []int{0, 0, 0}, []int{0, 1, 2}, nil},
		{"a cycle that descends", heapWith([]impl.Cell{usedCell(1, 2), usedCell(2, 0), usedCell(3, 1)}), 1, []int{0, 1, 2}, []int{0, 0, 0}, []int{0, 1, 2}, nil},
		{"a cycle beside one that can be reached", heapWith([]impl.Cell{usedCell(1, 2), usedCell(2, 3), usedCell(3, 0), usedCell(4, 1)}, 3), 2, []int{0, 2}, []int{0, -1, 0, -1}, []int{0, 2}, []int{1, 3}},
		{"a cycle beside another lost one", heapWith([]impl.Cell{usedCell(1, 2), usedCell(2, 3), usedCell(3, 0), usedCell(4, 1)}), 2, []int{0, 2}, []int{0, -1, 0, -1}, []int{0, 2}, nil},
		{"cycles that share a cell", heapWith(eight), 1, []int{0, 1, 2}, []int{0, 0, 0}, []int{0, 1, 2}, nil},
		{"cycles that share two cells", heapWith([]impl.Cell{usedCell(1, 1), usedCell(2, 0, 2), usedCell(3, 0)}), 2, []int{0, 1, 2}, []int{0, 0, 0}, []int{0, 1, 2}, nil},
		{"a cycle within another one", heapWith(inner), 3, []int{0, 1, 2, 3}, []int{0, 0, 0, 0}, []int{0, 1, 2, 3}, nil},
		{"a cell that refers to itself within a cycle", heapWith([]impl.Cell{usedCell(1, 1), usedCell(2, 1, 0)}), 0, []int{0, 1}, []int{0, 0}, []int{0, 1}, nil},
		{"cells that all refer to each other and to themselves", heapWith([]impl.Cell{usedCell(1, 0, 1, 2), usedCell(2, 0, 1, 2), usedCell(3, 0, 1, 2)}), 2, []int{0, 1, 2}, []int{0, 0, 0}, []int{0, 1, 2}, nil},
		{"a cycle between cells that are not used", heapWith([]impl.Cell{{}, usedCell(1, 3), {}, usedCell(3, 1), {}}), 3, []int{1, 3}, []int{-1, 0, -1, 0, -1}, []int{1, 3}, nil},
	}
}

// cyclesWithLostCells are cases with lost cells that lead to cycles.
func cyclesWithLostCells() []cycleCase {
	lower := heapWith([]impl.Cell{usedCell(1, 1), usedCell(2, 2), usedCell(3, 1)})
	higher := heapWith([]impl.Cell{usedCell(1, 1), usedCell(2, 0), usedCell(3, -1, 1)})
	both := heapWith([]impl.Cell{usedCell(1, 1), usedCell(2, 1), usedCell(3, 1)})
	row := heapWith([]impl.Cell{usedCell(1, 1), usedCell(2, 2), usedCell(3, 3), usedCell(4, 2)})
	back := heapWith([]impl.Cell{usedCell(1, 1), usedCell(2, 0), usedCell(3, 1), usedCell(4, 2)})
	onward := heapWith([]impl.Cell{usedCell(1, 1), usedCell(2, 0, 2), usedCell(3, 3), usedCell(4, 2)})
	return []cycleCase{
		{"a lost cell with a lower number leads to a cycle", lower, 1, []int{1, 2}, []int{-1, 1, 0}, nil, nil},
		{"a lost cell with a lower number leads to a cycle, and is the suspect", lower, 0, []int{0, 1, 2}, []int{0, 0, 0}, []int{0, 1, 2}, nil},
		{"a lost cell with a higher number leads to a cycle", higher, 0, []int{0, 1}, []int{0, 1, -1}, nil, nil},
		{"a lost cell with a higher number leads to a cycle, and is the suspect", higher, 2, []int{0, 1, 2}, []int{0, 0, 0}, []int{0, 1, 2}, nil},
		{"two lost cells lead to a cycle", both, 1, []int{1}, []int{-1, 2, -1}, nil, nil},
		{"two lost cells lead to a cycle, and the first one is the suspect", both, 0, []int{0, 1}, []int{0, 1, -1}, []int{0}, nil},
		{"two lost cells lead to a cycle, and the second one is the suspect", both, 2, []int{1, 2}, []int{-1, 1, 0}, []int{2}, nil},
		{"a row of lost cells ends in a cycle", row, 0, []int{0, 1, 2, 3}, []int{0, 0, 0, 0}, []int{0, 1, 2, 3}, nil},
		{"a row of lost cells ends in a cycle, with a suspect in the row", row, 1, []int{1, 2, 3}, []int{-1, 1, 0, 0}, nil, nil},
		{"a row of lost cells ends in a cycle, with a suspect in the cycle", row, 3, []int{2, 3}, []int{-1, -1, 1, 0}, nil, nil},
		{"a row of lost cells that descends ends in a cycle", back, 3, []int{0, 1, 2, 3}, []int{0, 0, 0, 0}, []int{0, 1, 2, 3}, nil},
		{"a row of lost cells that descends ends in a cycle, with a suspect in the cycle", back, 0, []int{0, 1}, []int{0, 1, -1, -1}, nil, nil},
		{"a lost cycle leads to another one", onward, 0, []int{0, 1, 2, 3}, []int{0, 0, 0, 0}, []int{0, 1, 2, 3}, nil},
		{"a lost cycle leads to another one, with a suspect in that", onward, 3, []int{2, 3}, []int{-1, -1, 1, 0}, nil, nil},
		{"two lost cells lead to a cell, which leads to a cycle", heapWith([]impl.Cell{usedCell(1, 0), usedCell(2, 0), usedCell(3, 1), usedCell(4, 1)}), 2, []int{0, 1, 2}, []int{0, 1, 0, -1}, []int{2}, nil},
	}
}

// cyclesWithOthers are cases in which a suspect leads to cells that are not in a cycle, or that can be reached.
func cyclesWithOthers() []cycleCase {
	tail := heapWith([]impl.Cell{usedCell(1, 1), usedCell(2, 0, 2), usedCell(3, 3), usedCell(4)})
	kept := heapWith([]impl.Cell{usedCell(1, 0, 1), usedCell(2, 2), usedCell(3, 3), usedCell(4)}, 2)
	lost := heapWith([]impl.Cell{usedCell(1), usedCell(2, 0), usedCell(3, 1)}, 0)
	mixed := heapWith([]impl.Cell{usedCell(1, 1, 2, 3), usedCell(2, 0), usedCell(3, 2), usedCell(4, 3), usedCell(5, 2)}, 3)
	return []cycleCase{
		{"a cell to which nothing leads", heapWith([]impl.Cell{usedCell(1)}), 0, []int{0}, []int{0}, []int{0}, nil},
		{"a cycle leads to a row", tail, 0, []int{0, 1, 2, 3}, []int{0, 0, 0, 0}, []int{0, 1, 2, 3}, nil},
		{"a cycle leads to a row, with a suspect in the row", tail, 2, []int{2, 3}, []int{-1, -1, 1, 0}, nil, nil},
		{"a cycle leads to a row, with a suspect at its end", tail, 3, []int{3}, []int{-1, -1, -1, 1}, nil, nil},
		{"a cycle leads to a row that can be reached from its middle on", kept, 0, []int{0, 1, 2, 3}, []int{0, 0, 1, 0}, []int{0, 1}, []int{2, 3}},
		{"a cycle leads to a row that can be reached, with a suspect in the row", kept, 1, []int{1, 2, 3}, []int{-1, 1, 1, 0}, nil, []int{2, 3}},
		{"a cycle leads to one that can be reached", heapWith([]impl.Cell{usedCell(1, 1), usedCell(2, 0, 2), usedCell(3, 3), usedCell(4, 2)}, -1, 3), 0, []int{0, 1, 2, 3}, []int{0, 0, 0, 1}, []int{0, 1}, []int{2, 3}},
		{"a lost row leads to a cell that can be reached", lost, 2, []int{0, 1, 2}, []int{1, 0, 0}, []int{1, 2}, []int{0}},
		{"a lost row leads to a cell that can be reached, with a suspect in the row", lost, 1, []int{0, 1}, []int{1, 1, -1}, nil, []int{0}},
		{"a lost row leads to a cell that can be reached, which is the suspect", lost, 0, []int{0}, []int{2, -1, -1}, nil, []int{0}},
		{"a suspect leads to lost cells of both kinds, and to one that can be reached", mixed, 0, []int{0, 1, 2, 3}, []int{0, 0, 1, 1, -1}, []int{0, 1}, []int{3}},
		{"a suspect to which a cell leads that it leads to", mixed, 1, []int{0, 1, 2, 3}, []int{0, 0, 1, 1, -1}, []int{0, 1}, []int{3}},
		{"two ways to a cycle", heapWith([]impl.Cell{usedCell(1, 1, 2), usedCell(2, 3), usedCell(3, 3), usedCell(4, 3)}), 0, []int{0, 1, 2, 3}, []int{0, 0, 0, 0}, []int{0, 1, 2, 3}, nil},
		{"two ways to a cycle, with a suspect on one of them", heapWith([]impl.Cell{usedCell(1, 1, 2), usedCell(2, 3), usedCell(3, 3), usedCell(4, 3)}), 1, []int{1, 3}, []int{-1, 1, -1, 1}, nil, nil},
		{"two ways to a cell, one of them by a cell that can be reached", heapWith([]impl.Cell{usedCell(1, 1, 2), usedCell(2), usedCell(3, 1)}, 2), 0, []int{0, 1, 2}, []int{0, 0, 1}, []int{0}, []int{1, 2}},
		{"a lost cell beside cells that can be reached", heapWith([]impl.Cell{usedCell(1, 2), usedCell(2, 1), usedCell(3, 0)}, 2), 1, []int{1}, []int{-1, 0, -1}, []int{1}, []int{0, 2}},
	}
}

// wideCycles are cases with MaxCells cells.
func wideCycles() []cycleCase {
	last := impl.MaxCells - 1
	all, zeros := rangeOf(0, last), make([]int, impl.MaxCells)
	ring := make([]impl.Cell, impl.MaxCells)
	for number := range ring {
		ring[number] = usedCell(number, (number+1)%impl.MaxCells)
	}
	with := func(number int, count int) []int {
		counts := slices.Clone(zeros)
		counts[number] = count
		return counts
	}
	chain := chainOf(impl.MaxCells)
	return []cycleCase{
		{"a lost cycle of MaxCells cells", heapWith(ring), 17, all, zeros, all, nil},
		{"a cycle of MaxCells cells, with a root", heapWith(ring, -1, 17), 18, all, with(17, 1), nil, all},
		{"a cycle of MaxCells cells, with two roots at the last one", heapWith(ring, last, last), 0, all, with(last, 2), nil, all},
		{"a lost row of MaxCells cells", heapWith(chain), last, all, zeros, all, nil},
		{"a lost row of MaxCells cells, with a suspect that is not the first", heapWith(chain), last - 1, rangeOf(0, last-1), append(with(last-1, 1)[:last], -1), nil, nil},
		{"a row of MaxCells cells, with a root in the middle", heapWith(chain, 20), last, all, with(20, 1), rangeOf(21, last), rangeOf(0, 20)},
		{"a row of MaxCells cells that can be reached", heapWith(chain, last), last, all, with(last, 1), nil, all},
	}
}

// P2, P59, P60, P61, P122: the results of single heaps, written out.
func TestOneCycle(t *testing.T) {
	for _, c := range slices.Concat(reachedCycles(), lostCycles(), cyclesWithLostCells(), cyclesWithOthers(), wideCycles()) {
		cells := len(c.heap.Cells)
		from := flagsWith(cells, c.from...)
		if got := impl.CellsFrom(c.heap, c.suspect); !slices.Equal(got, from) {
			t.Errorf("%s: CellsFrom(%v, %d) = %v, not %v", c.name, c.heap, c.suspect, got, from)
		}
		if got := impl.TrialCounts(c.heap, from); !slices.Equal(got, c.counts) {
			t.Errorf("%s: TrialCounts(%v, %v) = %v, not %v", c.name, c.heap, from, got, c.counts)
		}
		if got, want := impl.DeadCycle(c.heap, c.suspect), flagsWith(cells, c.dead...); !slices.Equal(got, want) {
			t.Errorf("%s: DeadCycle(%v, %d) = %v, not %v", c.name, c.heap, c.suspect, got, want)
		}
		stays := flagsWith(cells, c.left...)
		want := countedOf(withoutCells(c.heap, func(number int) bool { return !stays[number] }))
		freed := usedCount(c.heap) - len(c.left)
		if got, many := impl.CollectCycles(countedOf(c.heap)); many != freed || !sameCounted(got, want) {
			t.Errorf("%s: CollectCycles(%v) = %v, %d, not %v, %d", c.name, c.heap, got, many, want, freed)
		}
	}
}

type trialCase struct {
	name   string
	set    []int
	counts []int
}

// trialHeap is a heap with references of all kinds; to its cells 0, 1, 2 and 4 lead 4, 3, 3 and 1 roots and references, and cell 4 is lost.
func trialHeap() impl.Heap {
	return heapWith([]impl.Cell{usedCell(1, 1, -1), usedCell(2, 0, 2), usedCell(3, 2, 1, 1), {}, usedCell(5, 0, 4)}, 0, 0, 2)
}

// P59: the trial counts of single sets of cells, written out.
func TestOneSet(t *testing.T) {
	for _, c := range []trialCase{
		{"the empty set", nil, []int{-1, -1, -1, -1, -1}},
		{"all used cells: the roots alone count", []int{0, 1, 2, 4}, []int{2, 0, 1, -1, 0}},
		{"all cells that can be reached", []int{0, 1, 2}, []int{3, 0, 1, -1, -1}},
		{"the lost cell", []int{4}, []int{-1, -1, -1, -1, 0}},
		{"one cell to which two roots lead", []int{0}, []int{4, -1, -1, -1, -1}},
		{"one cell to which two references of the same cell lead", []int{1}, []int{-1, 3, -1, -1, -1}},
		{"one cell that refers to itself", []int{2}, []int{-1, -1, 2, -1, -1}},
		{"references from inside and from outside to cell 0", []int{0, 1}, []int{3, 2, -1, -1, -1}},
		{"references from inside and from outside to cell 1", []int{1, 2}, []int{-1, 1, 1, -1, -1}},
		{"cells that do not refer to each other", []int{0, 2}, []int{4, -1, 2, -1, -1}},
		{"a cell that can be reached, and a lost one", []int{0, 4}, []int{3, -1, -1, -1, 0}},
	} {
		if got := impl.TrialCounts(trialHeap(), flagsWith(5, c.set...)); !slices.Equal(got, c.counts) {
			t.Errorf("%s: TrialCounts(%v, %v) = %v, not %v", c.name, trialHeap(), c.set, got, c.counts)
		}
	}
}

// checkLeftOut fails unless the trial counts are those of RefCounts without the references of cells of the set, for its cells, and -1 for the others.
func checkLeftOut(t *testing.T, h impl.Heap, set []bool) {
	t.Helper()
	counts, all := impl.TrialCounts(h, set), impl.RefCounts(h)
	if len(counts) != len(h.Cells) {
		t.Fatalf("TrialCounts(%v, %v) = %v", h, set, counts)
	}
	inside := impl.Heap{}
	for number, c := range h.Cells {
		if set[number] {
			inside.Cells = append(inside.Cells, c)
		}
	}
	for number, count := range counts {
		want := -1
		if set[number] {
			want = all[number] - leadingTo(inside, number)
		}
		if count != want || count > all[number] {
			t.Fatalf("TrialCounts(%v, %v) = %v, and RefCounts = %v", h, set, counts, all)
		}
	}
}

// P59: trial counts leave out what is inside: they are at most RefCounts, and for a set with all used cells the numbers of roots.
func TestTrialCountsLeaveOutWhatIsInside(t *testing.T) {
	fewer := 0
	eachLinked(func(h impl.Heap) {
		for _, set := range setsOf(h) {
			checkLeftOut(t, h, set)
		}
		used := usedFlags(h)
		counts, all := impl.TrialCounts(h, used), impl.RefCounts(h)
		for number, count := range counts {
			if used[number] && count != leadingTo(impl.Heap{Roots: h.Roots}, number) || !used[number] && count != -1 {
				t.Fatalf("TrialCounts(%v, %v) = %v", h, used, counts)
			}
			if used[number] && count < all[number] {
				fewer++
			}
		}
	})
	if fewer == 0 {
		t.Error("no reference was left out")
	}
}

// P60: the cell is in the set, and all to which a cell of the set refers; if the cell can be reached, all of the set can; and no cell is there to which its references do not lead.
func TestCellsLeadOn(t *testing.T) {
	eachLinked(func(h impl.Heap) {
		reached := reachableOf(h)
		for _, number := range suspectsOf(h) {
			set := impl.CellsFrom(h, number)
			if len(set) != len(h.Cells) || !set[number] {
				t.Fatalf("CellsFrom(%v, %d) = %v", h, number, set)
			}
			led := leadsTo(h, number)
			for k, in := range set {
				if in && (!h.Cells[k].Used || reached[number] && !reached[k]) || in != (led[k] || k == number) {
					t.Fatalf("CellsFrom(%v, %d) = %v, and cell %d is there", h, number, set, k)
				}
				for _, target := range h.Cells[k].Refs {
					if in && target != -1 && !set[target] {
						t.Fatalf("CellsFrom(%v, %d) = %v, and cell %d refers to cell %d", h, number, set, k, target)
					}
				}
			}
		}
	})
}

// checkOnlyLost fails if a dead cell can be reached, or if a root or a cell that is not dead refers to one.
func checkOnlyLost(t *testing.T, h impl.Heap, dead []bool) {
	t.Helper()
	lists := [][]int{h.Roots}
	for number, reached := range reachableOf(h) {
		if dead[number] && (reached || !h.Cells[number].Used) {
			t.Fatalf("cell %d of %v is dead: %v", number, h, dead)
		}
		if !dead[number] {
			lists = append(lists, h.Cells[number].Refs)
		}
	}
	for _, list := range lists {
		for _, target := range list {
			if target != -1 && dead[target] {
				t.Fatalf("something that is not dead refers to cell %d of %v, which is: %v", target, h, dead)
			}
		}
	}
}

// P61: no cell that can be reached is dead, and nothing that is not dead refers to a dead cell.
func TestOnlyDeadCyclesAreFreed(t *testing.T) {
	some, none := 0, 0
	eachLinked(func(h impl.Heap) {
		for _, suspect := range suspectsOf(h) {
			dead := impl.DeadCycle(h, suspect)
			if len(dead) != len(h.Cells) {
				t.Fatalf("DeadCycle(%v, %d) = %v", h, suspect, dead)
			}
			checkOnlyLost(t, h, dead)
			if slices.Contains(dead, true) {
				some++
			} else {
				none++
			}
		}
	})
	if some == 0 || none == 0 {
		t.Errorf("%d suspects have made cells dead, and %d have not", some, none)
	}
}

// P61: the dead cells are as many as may be: every set of cells from the suspect on into which nothing leads from outside is among them.
func TestNoFurtherCellIsDead(t *testing.T) {
	mayBeDead := func(h impl.Heap, set []bool) bool {
		for number, count := range trialCountsOf(h, set) {
			if set[number] && count > 0 {
				return false
			}
		}
		return true
	}
	check := func(h impl.Heap) {
		sets := setsOf(h)
		for _, suspect := range suspectsOf(h) {
			from, most := cellsFromOf(h, suspect), make([]bool, len(h.Cells))
			for _, set := range sets {
				inside := mayBeDead(h, set)
				for number := range set {
					inside = inside && (!set[number] || from[number])
				}
				for number := range set {
					most[number] = most[number] || inside && set[number]
				}
			}
			if got := impl.DeadCycle(h, suspect); !slices.Equal(got, most) {
				t.Fatalf("DeadCycle(%v, %d) = %v, not %v", h, suspect, got, most)
			}
		}
	}
	eachHeapOf(1, impl.MaxRefs, impl.MaxRoots, check)
	eachHeapOf(2, 2, 2, check)
	eachHeapOf(3, 1, 2, check)
	eachGraph(3, check)
	eachHeapOf(4, 1, 1, check)
}

// P122: the cells of DeadCycle are leaked cells, whatever the suspect is; one that can be reached makes none dead that can be reached, nor any other.
func TestDeadCellsHadLeaked(t *testing.T) {
	eachLinked(func(h impl.Heap) {
		leaked, reached := impl.LeakedCells(h), reachableOf(h)
		for _, suspect := range suspectsOf(h) {
			dead := impl.DeadCycle(h, suspect)
			for number := range dead {
				if dead[number] && (!slices.Contains(leaked, number) || reached[number]) {
					t.Fatalf("DeadCycle(%v, %d) = %v, and %v have leaked", h, suspect, dead, leaked)
				}
			}
			if reached[suspect] && slices.Contains(dead, true) {
				t.Fatalf("DeadCycle(%v, %d) = %v, and the suspect can be reached", h, suspect, dead)
			}
		}
	})
}

// checkAllFound fails unless CollectCycles of a valid heap leaves exactly what can be reached, where it was and as it was, and tells how many cells had leaked; it returns how many these are.
func checkAllFound(t *testing.T, c impl.Counted) int {
	t.Helper()
	got, freed := impl.CollectCycles(c)
	if !impl.CountedValid(got) || !validCounted(got) || len(got.Store.Cells) != len(c.Store.Cells) || !slices.Equal(got.Store.Roots, c.Store.Roots) {
		t.Fatalf("CollectCycles(%v) = %v", c, got)
	}
	for number, reached := range reachableOf(c.Store) {
		want := impl.Cell{}
		if reached {
			want = c.Store.Cells[number]
		}
		if !sameCell(got.Store.Cells[number], want) {
			t.Fatalf("CollectCycles(%v) = %v, and cell %d can be reached: %v", c, got, number, reached)
		}
	}
	if !slices.Equal(reachableOf(got.Store), usedFlags(got.Store)) || !impl.SameView(got.Store, c.Store) || !slices.Equal(viewOf(got.Store), viewOf(c.Store)) {
		t.Fatalf("CollectCycles(%v) = %v, of which a program sees %v", c, got, viewOf(got.Store))
	}
	if leaked := impl.LeakedCells(c.Store); freed != len(leaked) || freed != len(leakedOf(c.Store)) {
		t.Fatalf("CollectCycles(%v) has freed %d cells, and %v had leaked", c, freed, leaked)
	}
	if again, more := impl.CollectCycles(got); more != 0 || !sameCounted(again, got) {
		t.Fatalf("CollectCycles(%v) = %v, %d", got, again, more)
	}
	return freed
}

// P2: all cycles are found: afterwards exactly the cells that can be reached are used, a program sees the same, and as many were freed as had leaked.
func TestAllCyclesAreFound(t *testing.T) {
	freed, kept := 0, 0
	eachLinked(func(h impl.Heap) {
		if checkAllFound(t, impl.Counted{Store: h, Counts: refCountsOf(h)}) > 0 {
			freed++
		} else {
			kept++
		}
	})
	for _, h := range slices.Concat(wideHeaps(), fullHeaps(), oneUnused()) {
		checkAllFound(t, countedOf(h))
		for _, other := range elsewhere(h) {
			checkAllFound(t, countedOf(other))
		}
	}
	if freed == 0 || kept == 0 {
		t.Errorf("in %d heaps cells were freed, and in %d not", freed, kept)
	}
}

// eachOrder calls check with all orders of the numbers below a number.
func eachOrder(many int, check func(order []int)) {
	order := rangeOf(0, many-1)
	var choose func(k int)
	choose = func(k int) {
		if k == many {
			check(order)
			return
		}
		for other := k; other < many; other++ {
			order[k], order[other] = order[other], order[k]
			choose(k + 1)
			order[k], order[other] = order[other], order[k]
		}
	}
	choose(0)
}

// P2, P61: in whatever order the cells stand, the same ones are dead, and all that are lost are found.
func TestCyclesInEveryOrder(t *testing.T) {
	for _, c := range slices.Concat(reachedCycles(), lostCycles(), cyclesWithLostCells(), cyclesWithOthers()) {
		cells := len(c.heap.Cells)
		eachOrder(cells, func(places []int) {
			h := placed(c.heap, cells, places)
			want := make([]bool, cells)
			for _, number := range c.dead {
				want[places[number]] = true
			}
			if got := impl.DeadCycle(h, places[c.suspect]); !slices.Equal(got, want) {
				t.Fatalf("%s: DeadCycle(%v, %d) = %v, not %v", c.name, h, places[c.suspect], got, want)
			}
			if freed := checkAllFound(t, countedOf(h)); freed != usedCount(c.heap)-len(c.left) {
				t.Fatalf("%s: %d cells of %v were freed", c.name, freed, h)
			}
		})
	}
}

// P2: two rows of lost cells of every length lead to a cycle; it is found, wherever the rows begin and end.
func TestRowsThatLeadToACycle(t *testing.T) {
	for first := range impl.MaxCells - 1 {
		for second := range impl.MaxCells - 1 - first {
			// The cycle of the cells 0 and 1 is followed by one row and then by the other one.
			cells := slices.Concat([]impl.Cell{usedCell(1, 1), usedCell(2, 0)}, make([]impl.Cell, first+second))
			for k := range first + second {
				before := k + 1
				if k == 0 || k == first {
					before = k % 2
				}
				cells[k+2] = usedCell(3, before)
			}
			many := len(cells)
			for _, placeOf := range []func(number int) int{
				func(number int) int { return number },
				func(number int) int { return many - 1 - number },
				func(number int) int { return (number + many/2) % many },
			} {
				var places []int
				for number := range many {
					places = append(places, placeOf(number))
				}
				h := placed(heapWith(cells), many, places)
				if freed := checkAllFound(t, countedOf(h)); freed != many {
					t.Fatalf("%d of %d cells of %v were freed", freed, many, h)
				}
				if first+second > 0 {
					h.Roots[3] = places[many-1]
					checkAllFound(t, countedOf(h))
				}
			}
		}
	}
}

// P121: after a program with counts, and CollectCycles, as many cells are used as can be reached without freeing.
func TestCountsAndCyclesAreComplete(t *testing.T) {
	freed, kept := 0, 0
	eachProgram(func(list []impl.Command) {
		c, all := impl.RunCounted(list), impl.RunHeap(list)
		many := checkAllFound(t, c)
		got, _ := impl.CollectCycles(c)
		used, live := impl.UsedCells(got.Store)
		_, want := usedCellsOf(all)
		if used != want || live != want || usedCount(got.Store) != want || !slices.Equal(viewOf(got.Store), viewOf(all)) {
			t.Fatalf("after %v and CollectCycles %v is left, and of %v %d cells can be reached", list, got, all, want)
		}
		if many > 0 {
			freed++
		}
		if want > 0 {
			kept++
		}
	})
	if freed == 0 || kept == 0 {
		t.Errorf("after %d programs cells had leaked, and after %d some can be reached", freed, kept)
	}
}

// P121: the programs that leak, written out: the leaked cells are freed, and no others.
func TestLeaksOfPrograms(t *testing.T) {
	for _, c := range slices.Concat(freeingPrograms(), leakingPrograms()) {
		want := countedOf(withoutCells(c.want, func(number int) bool { return slices.Contains(c.leaked, number) }))
		if got, freed := impl.CollectCycles(impl.RunCounted(c.list)); freed != len(c.leaked) || !sameCounted(got, want) {
			t.Errorf("%s: CollectCycles after %v = %v, %d, not %v", c.name, c.list, got, freed, want)
		}
	}
}

// P2, P121: also in far more instructions than a program has, with cycles collected now and then, a program sees the same, and there is room as long as not all of MaxCells cells are used by what can be reached.
func TestCyclesForLong(t *testing.T) {
	freed := 0
	for _, every := range []int{1, 2, 7, 40, 100} {
		c := countedOf(heapWith(nil))
		for k := range 40 {
			for i, o := range mixedProgram(impl.MaxCommands, every+k) {
				if (k*impl.MaxCommands+i)%every == 0 {
					freed += checkAllFound(t, c)
					c, _ = impl.CollectCycles(c)
				}
				small, _ := heapOfView(viewOf(c.Store))
				next, ok := impl.StepCounted(c, o)
				shown, possible := stepOf(small, o)
				if every == 1 && ok != possible {
					t.Fatalf("StepCounted(%v, %v) = %v, %v", c, o, next, ok)
				}
				if ok && !slices.Equal(viewOf(next.Store), viewOf(shown)) {
					t.Fatalf("StepCounted(%v, %v) = %v, and a program sees %v", c, o, next, viewOf(shown))
				}
				c = next
			}
		}
	}
	if freed == 0 {
		t.Error("no cycle was collected")
	}
}

// P2: when leaked cells have taken all places, CollectCycles makes room again.
func TestCollectedCyclesMakeRoom(t *testing.T) {
	c := countedOf(heapWith(nil))
	for range impl.MaxCells {
		c, _ = impl.StepCounted(c, opNew(0, 1, 5))
		c, _ = impl.StepCounted(c, opSet(0, 0, 0))
	}
	if _, ok := impl.StepCounted(c, opNew(1, 0, 6)); ok {
		t.Fatalf("there is room in %v", c)
	}
	if freed := checkAllFound(t, c); freed != impl.MaxCells-1 {
		t.Fatalf("CollectCycles(%v) has freed %d cells", c, freed)
	}
	c, _ = impl.CollectCycles(c)
	for number := range impl.MaxCells - 1 {
		c, _ = impl.StepCounted(c, opNew(1, 0, 6))
		if want := number % 2; c.Store.Roots[1] != want {
			t.Fatalf("after %d new cells the heap is %v", number+1, c)
		}
	}
}

// P2: in valid heaps with counts used cells may be there to which nothing leads; they are lost as well.
func TestCellsToWhichNothingLeads(t *testing.T) {
	for _, c := range lostSteps() {
		checkAllFound(t, countedOf(c.heap))
	}
	for many := range impl.MaxCells + 1 {
		loose := slices.Repeat([]impl.Cell{usedCell(1)}, many)
		h := heapWith(loose)
		if freed := checkAllFound(t, impl.Counted{Store: h, Counts: make([]int, many)}); freed != many {
			t.Fatalf("%d of %d cells were freed", freed, many)
		}
		for number := range many {
			h.Roots[2] = number
			if freed := checkAllFound(t, countedOf(h)); freed != many-1 {
				t.Fatalf("%d of %d cells were freed, and one has a root", freed, many)
			}
			if dead := impl.DeadCycle(h, (number+1)%many); many > 1 && !slices.Equal(dead, flagsWith(many, (number+1)%many)) {
				t.Fatalf("DeadCycle(%v, %d) = %v", h, (number+1)%many, dead)
			}
		}
	}
}

// P2, P59: a heap without cells has no cells from which anything could be reached.
func TestCyclesWithoutCells(t *testing.T) {
	for _, cells := range [][]impl.Cell{nil, {}} {
		for _, set := range [][]bool{nil, {}, {false}, {true}, make([]bool, impl.MaxCells)} {
			if got := impl.TrialCounts(heapWith(cells), set); len(got) != 0 {
				t.Fatalf("TrialCounts(%v, %v) = %v", heapWith(cells), set, got)
			}
		}
		for _, number := range slices.Concat([]int{-1, 0, 1}, oddTargets) {
			checkNoSuspect(t, heapWith(cells), number)
		}
		for _, counts := range [][]int{nil, {}} {
			got, freed := impl.CollectCycles(impl.Counted{Store: heapWith(cells), Counts: counts})
			if freed != 0 || !sameCounted(got, countedOf(heapWith(nil))) {
				t.Fatalf("CollectCycles of a heap without cells = %v, %d", got, freed)
			}
		}
		checkNothingCollected(t, impl.Counted{Store: heapWith(cells), Counts: []int{0}})
	}
}

// checkNoSuspect fails unless CellsFrom and DeadCycle return nil.
func checkNoSuspect(t *testing.T, h impl.Heap, number int) {
	t.Helper()
	if got := impl.CellsFrom(h, number); len(got) != 0 {
		t.Fatalf("CellsFrom(%v, %d) = %v", h, number, got)
	}
	if got := impl.DeadCycle(h, number); len(got) != 0 {
		t.Fatalf("DeadCycle(%v, %d) = %v", h, number, got)
	}
}

// checkNothingCollected fails unless CollectCycles returns the zero value and -1.
func checkNothingCollected(t *testing.T, c impl.Counted) {
	t.Helper()
	if got, freed := impl.CollectCycles(c); freed != -1 || len(got.Store.Cells) != 0 || len(got.Store.Roots) != 0 || len(got.Counts) != 0 {
		t.Fatalf("CollectCycles(%v) = %v, %d", c, got, freed)
	}
}

// checkNoCounts fails unless TrialCounts returns nil.
func checkNoCounts(t *testing.T, h impl.Heap, set []bool) {
	t.Helper()
	if got := impl.TrialCounts(h, set); len(got) != 0 {
		t.Fatalf("TrialCounts(%v, %v) = %v", h, set, got)
	}
}

// validHeapsOfAllSizes returns heaps with cells that are not used and with none of them, small and large.
func validHeapsOfAllSizes() []impl.Heap {
	all := slices.Concat(wideHeaps(), fullHeaps(), []impl.Heap{trialHeap(), heapWith([]impl.Cell{{}, {}})})
	for cells := range impl.MaxCells + 1 {
		all = append(all, mixedHeap(cells, cells))
	}
	return all
}

// eachOtherLength calls check with lists of flags that are shorter or longer than one list: such that begin like it, and such that are all false or all true.
func eachOtherLength(flags []bool, check func(other []bool)) {
	for many := range 140 {
		if many != len(flags) {
			check(make([]bool, many))
			check(slices.Repeat([]bool{true}, many))
			check(slices.Concat(flags, make([]bool, 140))[:many])
		}
	}
	if len(flags) > 0 {
		check(nil)
		check(flags[1:])
		check(slices.Concat(flags, flags))
	}
	for _, many := range []int{256, 1 << 16, 100000} {
		check(make([]bool, many))
		check(append(make([]bool, many), true))
	}
}

// P59: a set has one element for every cell: one that is nil, too short or too long has no trial counts, whatever is in it.
func TestSetsOfOtherLengths(t *testing.T) {
	for _, h := range validHeapsOfAllSizes() {
		checkTrialCounts(t, h, usedFlags(h))
		eachOtherLength(usedFlags(h), func(set []bool) { checkNoCounts(t, h, set) })
	}
}

// P59: a set has used cells only: with one that is not used, alone or among others, it has no trial counts.
func TestSetsWithCellsThatAreNotUsed(t *testing.T) {
	seen := 0
	check := func(h impl.Heap) {
		for number, c := range h.Cells {
			if c.Used {
				continue
			}
			seen++
			for _, set := range setsOf(h) {
				set[number] = true
				checkNoCounts(t, h, set)
			}
		}
		if slices.Contains(usedFlags(h), false) {
			checkNoCounts(t, h, slices.Repeat([]bool{true}, len(h.Cells)))
		}
	}
	eachHeapOf(2, 2, 2, check)
	eachHeapOf(3, 1, 2, check)
	for _, h := range slices.Concat(validHeapsOfAllSizes(), oneUnused()) {
		check(h)
	}
	if seen == 0 {
		t.Error("there was no cell that is not used")
	}
}

// P60, P61: from a number that is not that of a used cell nothing can be reached, and it makes nothing dead.
func TestNumbersOfNoUsedCell(t *testing.T) {
	for _, h := range slices.Concat(validHeapsOfAllSizes(), oneUnused()) {
		cells := len(h.Cells)
		for _, number := range slices.Concat([]int{-1, cells, cells + 1, -cells, cells + 64, cells + 256, cells - 64}, oddTargets) {
			if number < 0 || number >= cells {
				checkNoSuspect(t, h, number)
			}
		}
		for number, c := range h.Cells {
			if c.Used {
				checkSuspect(t, h, number)
			} else {
				checkNoSuspect(t, h, number)
			}
			for _, wide := range []int{number - 64, number + 64, number + 128, number + 1<<32, number - 1<<32, number + math.MinInt, ^number} {
				checkNoSuspect(t, h, wide)
			}
		}
	}
}

// P2, P59, P60, P61: a heap that is invalid in any way has no trial counts, no cells that lead on, no dead ones, and is not collected.
func TestCyclesOfInvalidHeaps(t *testing.T) {
	for _, h := range invalidHeaps() {
		cells := len(h.Cells)
		for _, set := range [][]bool{nil, {}, make([]bool, cells), usedFlags(h), slices.Repeat([]bool{true}, cells)} {
			checkNoCounts(t, h, set)
		}
		for number := range cells {
			checkNoSuspect(t, h, number)
			checkNoCounts(t, h, flagsWith(cells, number))
		}
		for _, number := range slices.Concat([]int{-1, cells, cells + 1}, oddTargets) {
			checkNoSuspect(t, h, number)
		}
		for _, counts := range [][]int{nil, {}, refCountsOf(h), make([]int, cells), manyOf(1, cells), manyOf(-1, cells)} {
			checkNothingCollected(t, impl.Counted{Store: h, Counts: counts})
		}
	}
}

// TestCyclesOfOtherTargets: with a root or a reference to anything that is no used cell, wherever it stands, and even in a cell that is lost, there are no results.
func TestCyclesOfOtherTargets(t *testing.T) {
	for _, h := range wideHeaps() {
		other, used, cells := copyOf(h), usedFlags(h), len(h.Cells)
		eachPlace(other, func(place *int) {
			before := *place
			for _, target := range append([]int{cells}, oddTargets...) {
				*place = target
				checkNoCounts(t, other, used)
				checkNoSuspect(t, other, 0)
				checkNoSuspect(t, other, cells-1)
				checkNothingCollected(t, impl.Counted{Store: other, Counts: refCountsOf(other)})
			}
			*place = before
		})
	}
}

// P2: with too few counts, too many, or another one at any place a heap is not collected.
func TestCyclesOfOtherCounts(t *testing.T) {
	check := func(h impl.Heap) {
		for _, counts := range otherCounts(refCountsOf(h)) {
			checkNothingCollected(t, impl.Counted{Store: h, Counts: counts})
		}
	}
	eachHeapOf(1, 2, 2, check)
	eachHeapOf(2, 1, 2, check)
	for _, h := range validHeapsOfAllSizes() {
		check(h)
	}
	checkNothingCollected(t, impl.Counted{})
	checkNothingCollected(t, impl.Counted{Counts: []int{0}})
	checkNothingCollected(t, impl.Counted{Store: impl.Heap{Cells: []impl.Cell{{}}}, Counts: []int{0}})
}

// checkCyclesOf compares the functions of the chapter with their definitions for a heap that may be valid or not.
func checkCyclesOf(t *testing.T, h impl.Heap) {
	t.Helper()
	cells := len(h.Cells)
	for _, set := range [][]bool{nil, make([]bool, cells), usedFlags(h), flagsWith(cells+1, cells)} {
		checkTrialCounts(t, h, set)
	}
	for _, number := range []int{-1, 0, 1, 2, cells - 1, cells} {
		checkSuspect(t, h, number)
	}
	checkCollect(t, impl.Counted{Store: h, Counts: refCountsOf(h)})
}

// TestCyclesReturnForAllNumbers: for every number of a root, a reference, Data, a count or a suspect, and for every length, the functions return what the chapter gives.
func TestCyclesReturnForAllNumbers(t *testing.T) {
	numbers := manyNumbers()
	few := heapWith([]impl.Cell{usedCell(0, 0), {}, usedCell(99, -1, 2, 0)}, 0, -1, 2)
	for _, h := range []impl.Heap{heapWith(nil), few, trialHeap(), mixedHeap(impl.MaxCells, 1)} {
		for _, number := range numbers {
			checkSuspect(t, h, number)
		}
	}
	for _, h := range []impl.Heap{copyOf(few), trialHeap()} {
		change := func(place *int) {
			before := *place
			for _, number := range numbers {
				*place = number
				checkCyclesOf(t, h)
			}
			*place = before
		}
		eachPlace(h, change)
		for number := range h.Cells {
			change(&h.Cells[number].Data)
		}
		c := countedOf(h)
		for k := range c.Counts {
			for _, number := range numbers {
				c.Counts[k] = number
				checkCollect(t, c)
			}
			c.Counts[k] = refCountsOf(h)[k]
		}
	}
	for many := range 70 {
		checkCyclesOf(t, heapWith(make([]impl.Cell, many)))
		checkCyclesOf(t, heapWith(slices.Repeat([]impl.Cell{usedCell(1, 0)}, many)))
		checkCyclesOf(t, heapWith([]impl.Cell{usedCell(0, manyOf(0, many)...)}))
		checkCyclesOf(t, impl.Heap{Cells: []impl.Cell{usedCell(0)}, Roots: manyOf(0, many)})
		for number := -1; number <= 2; number++ {
			checkCollect(t, impl.Counted{Store: few, Counts: manyOf(number, many)})
		}
	}
}

// TestCyclesOfExtremeNumbers: for heaps, counts and suspects whose numbers are all very large or very small the functions return what the chapter gives.
func TestCyclesOfExtremeNumbers(t *testing.T) {
	extremes := []int{math.MinInt, math.MinInt + 1, -1 << 32, -2, -1, 0, 1, 1 << 32, math.MaxInt - 1, math.MaxInt}
	for _, x := range extremes {
		for _, y := range extremes {
			for _, z := range extremes {
				for _, used := range []bool{false, true} {
					c := impl.Cell{Used: used, Data: x, Refs: []int{y}}
					for _, h := range []impl.Heap{heapWith([]impl.Cell{c}, z), heapWith([]impl.Cell{c, usedCell(0, 0)}, -1, z), heapWith([]impl.Cell{usedCell(0), c}, z)} {
						checkCyclesOf(t, h)
						checkSuspect(t, h, x)
						checkSuspect(t, h, y)
						checkCollect(t, impl.Counted{Store: h, Counts: []int{x, y}})
					}
				}
				checkCollect(t, impl.Counted{Store: trialHeap(), Counts: []int{x, y, z, x, y}})
				checkCollect(t, impl.Counted{Store: impl.Heap{Roots: []int{x, y, z, -1}}, Counts: []int{x, y, z}})
			}
		}
	}
}

// P2, P59, P60: nil and empty slices are the same.
func TestNilAndEmptySlicesOfCycles(t *testing.T) {
	for _, refs := range [][]int{nil, {}} {
		h := heapWith([]impl.Cell{{Refs: refs}, {Used: true, Refs: refs}, usedCell(1, 1)}, 1)
		checkCyclesOf(t, h)
		if freed := checkAllFound(t, countedOf(h)); freed != 1 {
			t.Fatalf("CollectCycles(%v) has freed %d cells", h, freed)
		}
	}
}

// TestCyclesThatShareMemory: the counts and the slices of a heap may be the same ones; nevertheless only lost cells are freed.
func TestCyclesThatShareMemory(t *testing.T) {
	numbers := []int{1, 2, 3, 1}
	cells := []impl.Cell{usedCell(1, 2, 2), usedCell(2, 0), usedCell(3, numbers[4:]...), usedCell(4)}
	lost := []int{0, 2, 2, 1, -1}
	for _, c := range []impl.Counted{
		{Store: impl.Heap{Cells: cells, Roots: numbers}, Counts: numbers},
		{Store: heapWith([]impl.Cell{usedCell(1, lost[1:4]...), usedCell(2, lost[3:]...), usedCell(3)}), Counts: lost[:3]},
	} {
		before := copyOfCounted(c)
		checkCyclesOf(t, c.Store)
		checkCollect(t, c)
		if !sameCounted(c, before) {
			t.Fatalf("%v became %v", before, c)
		}
	}
}

// cycleResults are the results of the chapter's functions for one heap with counts.
type cycleResults struct {
	counts     []int
	from, dead []bool
	collected  impl.Counted
	freed      int
}

// resultsOfCycles calls the functions of the chapter.
func resultsOfCycles(c impl.Counted, set []bool, number int) cycleResults {
	r := cycleResults{counts: impl.TrialCounts(c.Store, set), from: impl.CellsFrom(c.Store, number), dead: impl.DeadCycle(c.Store, number)}
	r.collected, r.freed = impl.CollectCycles(c)
	return r
}

// copyOfResults returns results that share no memory with the given ones.
func (r cycleResults) copyOfResults() cycleResults {
	return cycleResults{slices.Clone(r.counts), slices.Clone(r.from), slices.Clone(r.dead), copyOfCounted(r.collected), r.freed}
}

// same compares contents.
func (r cycleResults) same(other cycleResults) bool {
	return slices.Equal(r.counts, other.counts) && slices.Equal(r.from, other.from) && slices.Equal(r.dead, other.dead) && sameCounted(r.collected, other.collected) && r.freed == other.freed
}

// checkCyclesShareNothing fails if the functions of the chapter change an argument or the spare capacity of its slices, or if overwriting their results, with the spare capacity, changes an argument or another result.
func checkCyclesShareNothing(t *testing.T, c impl.Counted, set []bool, number int) {
	t.Helper()
	s := spareOf(c.Store)
	counts, wholeCounts := withSpare(c.Counts)
	wholeSet := slices.Concat(set, []bool{true, false, true})
	same, part := impl.Counted{Store: s.heap, Counts: counts}, wholeSet[:len(set)]
	before, beforeSet := slices.Concat(s.state(), wholeCounts), slices.Clone(wholeSet)
	checkKept := func() {
		t.Helper()
		if !slices.Equal(slices.Concat(s.state(), wholeCounts), before) || !slices.Equal(wholeSet, beforeSet) {
			t.Fatalf("%v with %v became %v with %v", c, beforeSet, same, wholeSet)
		}
	}
	r, other := resultsOfCycles(same, part, number), resultsOfCycles(same, part, number)
	want := r.copyOfResults()
	checkKept()
	overwriteHeap(t, r.collected.Store, r.collected.Counts, r.counts)
	overwrite(r.from[:cap(r.from)])
	overwrite(r.dead[:cap(r.dead)])
	checkKept()
	if !slices.Equal(r.dead, turnedOver(want.dead)) || !slices.Equal(r.from, turnedOver(want.from)) {
		t.Fatalf("two sets of cells of %v share memory", c)
	}
	if !other.same(want) || !resultsOfCycles(same, part, number).same(want) {
		t.Fatalf("results of %v share memory", c)
	}
}

// TestCyclesShareNothing: no argument changes, valid or not, not even when the results are overwritten, and neither does another result.
func TestCyclesShareNothing(t *testing.T) {
	check := func(h impl.Heap) {
		for _, set := range setsOf(h) {
			for _, number := range append(suspectsOf(h), -1) {
				checkCyclesShareNothing(t, countedOf(h), set, number)
			}
		}
	}
	eachHeapOf(2, 2, 1, check)
	eachHeapOf(3, 1, 1, check)
	for _, h := range validHeapsOfAllSizes() {
		check(h)
	}
	for _, h := range slices.Concat(invalidHeaps(), []impl.Heap{trialHeap()}) {
		for _, set := range [][]bool{nil, usedFlags(h), make([]bool, len(h.Cells)+1)} {
			checkCyclesShareNothing(t, countedOf(h), set, 0)
			checkCyclesShareNothing(t, impl.Counted{Store: h, Counts: manyOf(-1, len(h.Cells)+1)}, set, len(h.Cells))
		}
	}
}
