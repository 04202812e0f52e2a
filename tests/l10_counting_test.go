package tests

import (
	"math"
	"slices"
	"testing"

	"loop.example/memorymanagers/impl"
)

// countedOf returns a heap with the counts of all roots and references; it shares no memory with the heap.
func countedOf(h impl.Heap) impl.Counted {
	return impl.Counted{Store: copyOf(h), Counts: refCountsOf(h)}
}

// copyOfCounted returns a heap with counts that shares no memory with the given one.
func copyOfCounted(c impl.Counted) impl.Counted {
	return impl.Counted{Store: copyOf(c.Store), Counts: slices.Clone(c.Counts)}
}

// sameCounted compares contents: nil and empty slices are the same.
func sameCounted(a, b impl.Counted) bool {
	return sameHeap(a.Store, b.Store) && slices.Equal(a.Counts, b.Counts)
}

// validCounted is what CountedValid must return, from its definition.
func validCounted(c impl.Counted) bool {
	return validHeap(c.Store) && slices.Equal(c.Counts, refCountsOf(c.Store))
}

// firstUnused returns the first cell of a heap that is not used, or the number of cells if all are.
func firstUnused(h impl.Heap) int {
	for number, c := range h.Cells {
		if !c.Used {
			return number
		}
	}
	return len(h.Cells)
}

// reusingOf is stepOf, but OpNew uses the first cell that is not used, if there is one.
func reusingOf(h impl.Heap, o impl.Command) (impl.Heap, bool) {
	place := firstUnused(h)
	if o.Op != 1 || place == len(h.Cells) {
		return stepOf(h, o)
	}
	next := copyOf(h)
	next.Cells[place] = usedCell(o.C, manyOf(-1, o.B)...)
	next.Roots[o.A] = place
	return next, true
}

// freedOf returns a heap after all used cells to which nothing leads have been freed, again and again: always the last one first, as the order cannot matter.
func freedOf(h impl.Heap) impl.Heap {
	next := copyOf(h)
	for number := len(next.Cells) - 1; number >= 0; number-- {
		if next.Cells[number].Used && leadingTo(next, number) == 0 {
			next.Cells[number] = impl.Cell{}
			number = len(next.Cells)
		}
	}
	return next
}

// stepCountedOf is what StepCounted must return for a valid heap with counts and a valid instruction, from its definition.
func stepCountedOf(c impl.Counted, o impl.Command) (impl.Counted, bool) {
	next, ok := reusingOf(c.Store, o)
	if !ok {
		return copyOfCounted(c), false
	}
	return countedOf(freedOf(next)), true
}

// runCountedOf is what RunCounted must return, from its definition.
func runCountedOf(list []impl.Command) impl.Counted {
	if !validProgram(list) {
		return impl.Counted{}
	}
	c := countedOf(heapWith(nil))
	for _, o := range list {
		c, _ = stepCountedOf(c, o)
	}
	return c
}

// leakedOf is what LeakedCells must return for a valid heap, from its definition.
func leakedOf(h impl.Heap) []int {
	var leaked []int
	for number, reached := range reachableOf(h) {
		if h.Cells[number].Used && !reached {
			leaked = append(leaked, number)
		}
	}
	return leaked
}

// checkCountedStep compares StepCounted with its definition, for valid arguments and for others.
func checkCountedStep(t *testing.T, c impl.Counted, o impl.Command) {
	t.Helper()
	ok, want := false, impl.Counted{}
	if validCounted(c) && validCommand(o) {
		want, ok = stepCountedOf(c, o)
	}
	if got, done := impl.StepCounted(c, o); done != ok || !sameCounted(got, want) {
		t.Fatalf("StepCounted(%v, %v) = %v, %v, not %v, %v", c, o, got, done, want, ok)
	}
}

// checkCounted compares CountedValid and LeakedCells with their definitions, for valid arguments and for others, and StepCounted for some instructions.
func checkCounted(t *testing.T, c impl.Counted) {
	t.Helper()
	if got, want := impl.CountedValid(c), validCounted(c); got != want {
		t.Fatalf("CountedValid(%v) = %v", c, got)
	}
	var leaked []int
	if validHeap(c.Store) {
		leaked = leakedOf(c.Store)
	}
	if got := impl.LeakedCells(c.Store); !slices.Equal(got, leaked) {
		t.Fatalf("LeakedCells(%v) = %v, not %v", c.Store, got, leaked)
	}
	for _, o := range []impl.Command{opNew(0, 2, 9), opGet(1, 0, 0), opSet(0, 1, 0), opCopy(0, 2), opDrop(0), opData(0, 9)} {
		checkCountedStep(t, c, o)
	}
}

// checkNotCounted fails unless a heap with counts is invalid, and has no step, whatever the instruction is.
func checkNotCounted(t *testing.T, c impl.Counted) {
	t.Helper()
	if impl.CountedValid(c) {
		t.Fatalf("CountedValid(%v) = true", c)
	}
	for _, o := range []impl.Command{opNew(0, 2, 9), opGet(1, 0, 0), opSet(0, 1, 0), opCopy(0, 2), opCopy(3, 3), opDrop(0), opDrop(3), opData(0, 9), {}} {
		checkNoCountedStep(t, c, o)
	}
}

// checkNoCountedStep fails unless StepCounted returns the zero value and false.
func checkNoCountedStep(t *testing.T, c impl.Counted, o impl.Command) {
	t.Helper()
	if got, ok := impl.StepCounted(c, o); ok || len(got.Store.Cells) != 0 || len(got.Store.Roots) != 0 || len(got.Counts) != 0 {
		t.Fatalf("StepCounted(%v, %v) = %v, %v", c, o, got, ok)
	}
}

// checkCountedProgram compares RunCounted with its definition.
func checkCountedProgram(t *testing.T, list []impl.Command) {
	t.Helper()
	if got, want := impl.RunCounted(list), runCountedOf(list); !sameCounted(got, want) {
		t.Fatalf("RunCounted(%v) = %v, not %v", list, got, want)
	}
}

// checkNoCountedProgram fails unless RunCounted returns the zero value.
func checkNoCountedProgram(t *testing.T, list []impl.Command) {
	t.Helper()
	if got := impl.RunCounted(list); len(got.Store.Cells) != 0 || len(got.Store.Roots) != 0 || len(got.Counts) != 0 {
		t.Fatalf("RunCounted(%v) = %v", list, got)
	}
}

type countedCase struct {
	name    string
	heap    impl.Heap
	command impl.Command
	want    impl.Heap
	counts  []int
	ok      bool
}

// selfSteps are steps with cells that refer to themselves or to each other.
func selfSteps() []countedCase {
	self := []impl.Cell{usedCell(5, 0)}
	pair := []impl.Cell{usedCell(1, 1), usedCell(2, 0, 2), usedCell(3)}
	return []countedCase{
		{"a cell that comes to refer to itself", heapWith([]impl.Cell{usedCell(5, -1)}, 0), opSet(0, 0, 0), heapWith(self, 0), []int{2}, true},
		{"the last root of a cell that refers to itself", heapWith(self, 0), opDrop(0), heapWith(self), []int{1}, true},
		{"the last root of a cell that refers to itself three times", heapWith([]impl.Cell{usedCell(5, 0, 0, 0)}, -1, 0), opDrop(1), heapWith([]impl.Cell{usedCell(5, 0, 0, 0)}), []int{3}, true},
		{"one of two roots of a cell that refers to itself", heapWith(self, 0, 0), opDrop(1), heapWith(self, 0), []int{2}, true},
		{"a cell that refers to itself without a root stays", heapWith(self), opDrop(0), heapWith(self), []int{1}, true},
		{"a cell that does not refer to itself any more, with a root", heapWith(self, 0), opSet(0, 1, 0), heapWith([]impl.Cell{usedCell(5, -1)}, 0), []int{1}, true},
		{"a reference of a cell to itself read into its root", heapWith(self, 0), opGet(0, 0, 0), heapWith(self, 0), []int{2}, true},
		{"a reference of a cell to itself read into another root", heapWith(self, 0), opGet(3, 0, 0), heapWith(self, 0, -1, -1, 0), []int{3}, true},
		{"a reference of a cell that is not the one to itself read into its root", heapWith([]impl.Cell{usedCell(5, 0, -1)}, 0), opGet(0, 0, 1), heapWith([]impl.Cell{usedCell(5, 0, -1)}), []int{1}, true},
		{"a new cell over one that refers to itself", heapWith(self, 0), opNew(0, 0, 7), heapWith([]impl.Cell{usedCell(5, 0), usedCell(7)}, 1), []int{1, 1}, true},
		{"two cells that refer to each other, and one to which only they refer", heapWith(pair, 0), opDrop(0), heapWith(pair), []int{1, 1, 1}, true},
		{"two cells that refer to each other, by another root", heapWith(pair, 1), opCopy(1, 0), heapWith(pair, 1, 1), []int{1, 3, 1}, true},
		{"a cycle whose references go round without a root", heapWith([]impl.Cell{usedCell(1, 1), usedCell(2, 2), usedCell(3, 0)}, -1, -1, 1), opDrop(2), heapWith([]impl.Cell{usedCell(1, 1), usedCell(2, 2), usedCell(3, 0)}), []int{1, 1, 1}, true},
		{"a cycle that is opened and then has only its root", heapWith([]impl.Cell{usedCell(1, 1), usedCell(2, 2), usedCell(3, 0)}, 0), opSet(0, 1, 0), heapWith([]impl.Cell{usedCell(1, -1), {}, {}}, 0), []int{1, 0, 0}, true},
		{"a cycle to which a row leads", heapWith([]impl.Cell{usedCell(1, 1), usedCell(2, 2), usedCell(3, 3), usedCell(4, 2)}, 0), opDrop(0), heapWith([]impl.Cell{{}, {}, usedCell(3, 3), usedCell(4, 2)}), []int{0, 0, 1, 1}, true},
		{"a cycle that leads to a row", heapWith([]impl.Cell{usedCell(1, 0, 1), usedCell(2, 2), usedCell(3)}, 0), opDrop(0), heapWith([]impl.Cell{usedCell(1, 0, 1), usedCell(2, 2), usedCell(3)}), []int{1, 1, 1}, true},
	}
}

// freeingSteps are steps after which nothing leads to one cell or to several.
func freeingSteps() []countedCase {
	row := []impl.Cell{usedCell(1, 1), usedCell(2, 2), usedCell(3, 3), usedCell(4)}
	back := []impl.Cell{usedCell(1), usedCell(2, -1, 0), usedCell(3, 1), usedCell(4, 2, -1, -1)}
	twice := []impl.Cell{usedCell(1, 1, 1), usedCell(2, -1)}
	none := make([]impl.Cell, 4)
	return []countedCase{
		{"the only root of a cell is dropped", heapWith([]impl.Cell{usedCell(5, -1)}, 0), opDrop(0), heapWith(none[:1]), []int{0}, true},
		{"one of two roots is dropped", heapWith([]impl.Cell{usedCell(5)}, 0, 0), opDrop(0), heapWith([]impl.Cell{usedCell(5)}, -1, 0), []int{1}, true},
		{"another root is dropped", heapWith([]impl.Cell{usedCell(5)}, 0), opDrop(3), heapWith([]impl.Cell{usedCell(5)}, 0), []int{1}, true},
		{"the root of a row is dropped", heapWith(row, 0), opDrop(0), heapWith(none), []int{0, 0, 0, 0}, true},
		{"the root of a row that descends is dropped", heapWith(back, -1, 3), opDrop(1), heapWith(none), []int{0, 0, 0, 0}, true},
		{"the root of a row is dropped, and another one leads to its middle", heapWith(row, 0, 2), opDrop(0), heapWith([]impl.Cell{{}, {}, usedCell(3, 3), usedCell(4)}, -1, 2), []int{0, 0, 1, 1}, true},
		{"the root of a row goes on to the next cell", heapWith(row, 0), opGet(0, 0, 0), heapWith([]impl.Cell{{}, usedCell(2, 2), usedCell(3, 3), usedCell(4)}, 1), []int{0, 1, 1, 1}, true},
		{"the root of a row goes on to the next cell, which another root keeps", heapWith(row, 0, 0), opGet(0, 0, 0), heapWith(row, 1, 0), []int{1, 2, 1, 1}, true},
		{"the root of a row goes on behind its end", heapWith([]impl.Cell{usedCell(1, -1)}, 0), opGet(0, 0, 0), heapWith(none[:1]), []int{0}, true},
		{"a row is cut off behind its first cell", heapWith(row, 0), opSet(0, 1, 0), heapWith([]impl.Cell{usedCell(1, -1), {}, {}, {}}, 0), []int{1, 0, 0, 0}, true},
		{"a reference is set to another cell", heapWith([]impl.Cell{usedCell(1, 1), usedCell(2), usedCell(3)}, 0, 2), opSet(0, 1, 0), heapWith([]impl.Cell{usedCell(1, 2), {}, usedCell(3)}, 0, 2), []int{1, 0, 2}, true},
		{"a reference is set to what it is", heapWith([]impl.Cell{usedCell(1, 1), usedCell(2)}, 0, 1), opSet(0, 1, 0), heapWith([]impl.Cell{usedCell(1, 1), usedCell(2)}, 0, 1), []int{1, 2}, true},
		{"a cell is freed of which two references lead to one cell", heapWith(twice, 0), opDrop(0), heapWith(none[:2]), []int{0, 0}, true},
		{"a cell is freed of which two references lead to a cell with a root", heapWith(twice, 0, 1), opDrop(0), heapWith([]impl.Cell{{}, usedCell(2, -1)}, -1, 1), []int{0, 1}, true},
		{"a cell is freed of which two references lead to a cell to which a third one does", heapWith([]impl.Cell{usedCell(1, 1, -1, 1), usedCell(2), usedCell(3, 1)}, 0, 2), opDrop(0), heapWith([]impl.Cell{{}, usedCell(2), usedCell(3, 1)}, -1, 2), []int{0, 1, 1}, true},
		{"a cell of which two references led to one cell loses one of them", heapWith(twice, 0), opSet(0, 1, 1), heapWith([]impl.Cell{usedCell(1, 1, -1), usedCell(2, -1)}, 0), []int{1, 1}, true},
		{"two ways of different lengths to one cell", heapWith([]impl.Cell{usedCell(1, 1, 2), usedCell(2, 2), usedCell(3, 3), usedCell(4)}, 0), opDrop(0), heapWith(none), []int{0, 0, 0, 0}, true},
		{"a tree is freed", heapWith([]impl.Cell{usedCell(1, 1, 2, 3), usedCell(2), usedCell(3), usedCell(4)}, 0), opDrop(0), heapWith(none), []int{0, 0, 0, 0}, true},
		{"a root is copied over another one", heapWith([]impl.Cell{usedCell(1), usedCell(2, -1)}, 0, 1), opCopy(0, 1), heapWith([]impl.Cell{{}, usedCell(2, -1)}, 1, 1), []int{0, 2}, true},
		{"a root is copied over one that leads to the same cell", heapWith([]impl.Cell{usedCell(1)}, 0, 0), opCopy(0, 1), heapWith([]impl.Cell{usedCell(1)}, 0, 0), []int{2}, true},
		{"a root is copied over itself", heapWith([]impl.Cell{usedCell(1)}, 0), opCopy(0, 0), heapWith([]impl.Cell{usedCell(1)}, 0), []int{1}, true},
		{"a root is copied over the one of the cell that refers to its own", heapWith([]impl.Cell{usedCell(1, 1), usedCell(2)}, 0, 1), opCopy(0, 1), heapWith([]impl.Cell{{}, usedCell(2)}, 1, 1), []int{0, 2}, true},
		{"a root that is -1 is copied over another one", heapWith([]impl.Cell{usedCell(1)}, 0), opCopy(0, 3), heapWith(none[:1]), []int{0}, true},
		{"Data of a cell", heapWith(row, 0), opData(0, 9), heapWith([]impl.Cell{usedCell(9, 1), usedCell(2, 2), usedCell(3, 3), usedCell(4)}, 0), []int{1, 1, 1, 1}, true},
	}
}

// newSteps are steps with OpNew, where cells are not used before, between and behind used ones.
func newSteps() []countedCase {
	c := usedCell(5, -1, -1)
	last := slices.Repeat([]impl.Cell{usedCell(7, 38)}, impl.MaxCells-1)
	return []countedCase{
		{"a heap without cells", heapWith(nil), opNew(0, 2, 5), heapWith([]impl.Cell{c}, 0), []int{1}, true},
		{"no cell that is not used", heapWith([]impl.Cell{usedCell(1)}, 0), opNew(3, 2, 5), heapWith([]impl.Cell{usedCell(1), c}, 0, -1, -1, 1), []int{1, 1}, true},
		{"no cell that is not used before the step, into the only root of a cell", heapWith([]impl.Cell{usedCell(1)}, 0), opNew(0, 2, 5), heapWith([]impl.Cell{{}, c}, 1), []int{0, 1}, true},
		{"the only cell is not used", heapWith([]impl.Cell{{}}), opNew(1, 2, 5), heapWith([]impl.Cell{c}, -1, 0), []int{1}, true},
		{"not used before", heapWith([]impl.Cell{{}, usedCell(1)}, 1), opNew(1, 2, 5), heapWith([]impl.Cell{c, usedCell(1)}, 1, 0), []int{1, 1}, true},
		{"not used before, into the only root of a cell", heapWith([]impl.Cell{{}, usedCell(1)}, 1), opNew(0, 2, 5), heapWith([]impl.Cell{c, {}}, 0), []int{1, 0}, true},
		{"not used between", heapWith([]impl.Cell{usedCell(1), {}, usedCell(2)}, 0, 2), opNew(3, 2, 5), heapWith([]impl.Cell{usedCell(1), c, usedCell(2)}, 0, 2, -1, 1), []int{1, 1, 1}, true},
		{"not used between, into the only root of a cell", heapWith([]impl.Cell{usedCell(1), {}, usedCell(2)}, 0, 2), opNew(0, 2, 5), heapWith([]impl.Cell{{}, c, usedCell(2)}, 1, 2), []int{0, 1, 1}, true},
		{"not used between, into the root of a row", heapWith([]impl.Cell{usedCell(1, 3), {}, usedCell(2), usedCell(3, 2)}, 0), opNew(0, 2, 5), heapWith([]impl.Cell{{}, c, {}, {}}, 1), []int{0, 1, 0, 0}, true},
		{"not used behind", heapWith([]impl.Cell{usedCell(1), {}}, 0), opNew(1, 2, 5), heapWith([]impl.Cell{usedCell(1), c}, 0, 1), []int{1, 1}, true},
		{"not used behind, into the only root of a cell", heapWith([]impl.Cell{usedCell(1), {}}, 0), opNew(0, 2, 5), heapWith([]impl.Cell{{}, c}, 1), []int{0, 1}, true},
		{"not used everywhere", heapWith([]impl.Cell{{}, usedCell(1), {}, usedCell(2, 1), {}}, 3), opNew(0, 2, 5), heapWith([]impl.Cell{c, {}, {}, {}, {}}, 0), []int{1, 0, 0, 0, 0}, true},
		{"a cell without references and with Data 0", heapWith([]impl.Cell{{}, {}}), opNew(0, 0, 0), heapWith([]impl.Cell{usedCell(0), {}}, 0), []int{1, 0}, true},
		{"a cell with MaxRefs references and with MaxData", heapWith([]impl.Cell{{}, {}}), opNew(0, 3, 99), heapWith([]impl.Cell{usedCell(99, -1, -1, -1), {}}, 0), []int{1, 0}, true},
		{"the last cell for which there is room", heapWith(last, 38), opNew(1, 2, 5), heapWith(slices.Concat(make([]impl.Cell, 38), []impl.Cell{usedCell(7, 38), c}), 38, 39), slices.Concat(make([]int, 38), []int{2, 1}), true},
	}
}

// chainOf returns a number of used cells, each of which but the first one refers to the one before it.
func chainOf(cells int) []impl.Cell {
	chain := make([]impl.Cell, cells)
	for number := range chain {
		chain[number] = usedCell(number, number-1)
	}
	return chain
}

// fullSteps are steps with heaps of MaxCells used cells.
func fullSteps() []countedCase {
	chain, last := chainOf(impl.MaxCells), impl.MaxCells-1
	ones, zeros := manyOf(1, impl.MaxCells), make([]int, impl.MaxCells)
	single := heapWith(slices.Concat(chain[:last], []impl.Cell{usedCell(9, -1)}), last-1, last)
	loose := slices.Repeat([]impl.Cell{usedCell(1)}, impl.MaxCells)
	none := make([]impl.Cell, impl.MaxCells)
	return []countedCase{
		{"the new cell would free one", single, opNew(1, 1, 5), single, ones, false},
		{"the new cell would free all", heapWith(chain, last), opNew(0, 1, 5), heapWith(chain, last), ones, false},
		{"the new cell would free none", heapWith(chain, last), opNew(1, 0, 0), heapWith(chain, last), ones, false},
		{"nothing leads to any cell before the new one", heapWith(loose), opNew(0, 1, 5), heapWith(loose), zeros, false},
		{"one cell is freed", single, opDrop(1), heapWith(slices.Concat(chain[:last], none[:1]), last-1), slices.Concat(ones[:last], zeros[:1]), true},
		{"all cells but one are freed", single, opDrop(0), heapWith(slices.Concat(none[:last], single.Cells[last:]), -1, last), slices.Concat(zeros[:last], ones[:1]), true},
		{"a row of all cells is freed", heapWith(chain, last), opDrop(0), heapWith(none), zeros, true},
		{"all cells to which nothing leads are freed, and one stays", heapWith(loose, last), opDrop(1), heapWith(slices.Concat(none[:last], loose[:1]), last), slices.Concat(zeros[:last], ones[:1]), true},
	}
}

// almostFullSteps are steps with heaps of MaxCells cells, of which one is not used, or none is used.
func almostFullSteps() []countedCase {
	none := make([]impl.Cell, impl.MaxCells)
	made := slices.Concat([]impl.Cell{usedCell(5, -1)}, none[1:])
	all := []countedCase{{"no cell of MaxCells is used", heapWith(none), opNew(0, 1, 5), heapWith(made, 0), slices.Concat([]int{1}, make([]int, impl.MaxCells-1)), true}}
	for _, free := range []int{0, 1, 20, 38, 39} {
		cells := withoutCells(heapWith(chainOf(impl.MaxCells)), func(number int) bool { return number == free }).Cells
		filled := slices.Clone(cells)
		filled[free] = usedCell(5, -1)
		// What is before the cell that is not used has a root of its own, and so has what is behind it.
		before, behind := free-1, impl.MaxCells-1
		if free == behind {
			behind = -1
		}
		ones := manyOf(1, impl.MaxCells)
		all = append(all, countedCase{"one cell of MaxCells is not used", heapWith(cells, before, behind), opNew(2, 1, 5), heapWith(filled, before, behind, free), ones, true})
	}
	return all
}

// lostSteps are steps with heaps in which used cells are there to which nothing leads, and steps that are not possible.
func lostSteps() []countedCase {
	lost := heapWith([]impl.Cell{usedCell(1, 1), usedCell(2), usedCell(3, 1)}, 1)
	kept := heapWith([]impl.Cell{{}, usedCell(2), {}}, 1)
	row := heapWith([]impl.Cell{usedCell(1, 1), usedCell(2, 2), usedCell(3)})
	cycle := heapWith([]impl.Cell{usedCell(1, 1), usedCell(2, 1, -1), usedCell(3, 0)})
	return []countedCase{
		{"cells to which nothing leads are freed by a drop", lost, opDrop(3), kept, []int{0, 1, 0}, true},
		{"cells to which nothing leads are freed by a copy", lost, opCopy(0, 0), kept, []int{0, 1, 0}, true},
		{"cells to which nothing leads are freed by Data", lost, opData(0, 9), heapWith([]impl.Cell{{}, usedCell(9), {}}, 1), []int{0, 1, 0}, true},
		{"cells to which nothing leads are freed only after the new one is made", lost, opNew(2, 0, 9), heapWith([]impl.Cell{{}, usedCell(2), {}, usedCell(9)}, 1, -1, 3), []int{0, 1, 0, 1}, true},
		{"cells to which nothing leads are freed together with others", lost, opDrop(0), heapWith(make([]impl.Cell, 3)), []int{0, 0, 0}, true},
		{"a row to which nothing leads is freed", row, opDrop(0), heapWith(make([]impl.Cell, 3)), []int{0, 0, 0}, true},
		{"a row to which nothing leads, with a cycle at its end", cycle, opDrop(0), heapWith([]impl.Cell{{}, usedCell(2, 1, -1), {}}), []int{0, 1, 0}, true},
		{"cells to which nothing leads stay if nothing can be read", lost, opGet(0, 0, 0), lost, []int{0, 3, 0}, false},
		{"cells to which nothing leads stay if there is no place", lost, opSet(0, 0, 0), lost, []int{0, 3, 0}, false},
		{"cells to which nothing leads stay if there is no cell for Data", lost, opData(1, 9), lost, []int{0, 3, 0}, false},
		{"nothing can be read in a heap without cells", heapWith(nil), opGet(0, 0, 0), heapWith(nil), nil, false},
		{"nothing can be set in a heap without cells", heapWith(nil), opSet(0, 0, 0), heapWith(nil), nil, false},
		{"no Data in a heap without cells", heapWith(nil), opData(0, 0), heapWith(nil), nil, false},
		{"a drop in a heap without cells", heapWith(nil), opDrop(0), heapWith(nil), nil, true},
		{"a copy in a heap without cells", heapWith(nil), opCopy(0, 1), heapWith(nil), nil, true},
		{"cells that are not used stay so", heapWith([]impl.Cell{{}, {}}), opDrop(0), heapWith([]impl.Cell{{}, {}}), []int{0, 0}, true},
	}
}

// P55, P56: the results of single steps, written out.
func TestOneCountedStep(t *testing.T) {
	for _, c := range slices.Concat(selfSteps(), freeingSteps(), newSteps(), fullSteps(), almostFullSteps(), lostSteps()) {
		before := countedOf(c.heap)
		if !impl.CountedValid(before) {
			t.Errorf("%s: CountedValid(%v) = false", c.name, before)
		}
		want := impl.Counted{Store: c.want, Counts: c.counts}
		if got, ok := impl.StepCounted(before, c.command); ok != c.ok || !sameCounted(got, want) {
			t.Errorf("%s: StepCounted(%v, %v) = %v, %v, not %v, %v", c.name, before, c.command, got, ok, want, c.ok)
		}
		if !impl.CountedValid(want) {
			t.Errorf("%s: CountedValid(%v) = false", c.name, want)
		}
	}
}

// P56: for many heaps, and all instructions with them, the program agrees with the definition.
func TestCountedStepsAreTheDefinition(t *testing.T) {
	eachStep(func(h impl.Heap, o impl.Command) {
		checkCountedStep(t, impl.Counted{Store: h, Counts: refCountsOf(h)}, o)
	})
	commands := commandsWith(allData()...)
	for _, h := range []impl.Heap{heapWith(nil), heapWith([]impl.Cell{usedCell(0, 0, -1), {}, usedCell(99, 0, 2, 0), usedCell(1)}, 0, 2, -1, 3), mixedHeap(impl.MaxCells-1, 1), mixedHeap(impl.MaxCells, 0)} {
		for _, o := range commands {
			checkCountedStep(t, countedOf(h), o)
		}
	}
}

// oneUnused returns heaps of MaxCells cells of which one is not used, at the beginning, between and at the end, and to which little or much leads.
func oneUnused() []impl.Heap {
	var all []impl.Heap
	for _, list := range shapesOf(impl.MaxCells) {
		for _, free := range []int{0, 1, 19, 38, 39} {
			for _, roots := range [][]int{nil, {0}, {39, 20}, {-1, 3, 39, 0}} {
				all = append(all, withoutCells(heapWith(list, roots...), func(number int) bool { return number == free }))
			}
		}
	}
	return all
}

// P56: the same in heaps with MaxCells cells of which one is not used.
func TestCountedStepsWithOneUnusedCell(t *testing.T) {
	commands := commandsWith(42)
	for _, h := range oneUnused() {
		c := countedOf(h)
		for _, o := range commands {
			checkCountedStep(t, c, o)
		}
	}
}

// P55: a valid heap with its counts is valid; with one count more, or less, or another one, it is not.
func TestCountsAreRight(t *testing.T) {
	eachHeap(func(h impl.Heap) {
		c := impl.Counted{Store: h, Counts: refCountsOf(h)}
		if !impl.CountedValid(c) {
			t.Fatalf("CountedValid(%v) = false", c)
		}
		if c.Counts = impl.RefCounts(h); !impl.CountedValid(c) {
			t.Fatalf("CountedValid(%v) = false", c)
		}
		for number := range c.Counts {
			for _, change := range []int{1, -1} {
				c.Counts[number] += change
				if impl.CountedValid(c) {
					t.Fatalf("CountedValid(%v) = true", c)
				}
				c.Counts[number] -= change
			}
		}
	})
}

// otherCounts returns lists that are not the counts: too few, too many, in another order, and with one number that is another one, at every place.
func otherCounts(counts []int) [][]int {
	all := [][]int{append(slices.Clone(counts), 0), append(slices.Clone(counts), 1), append([]int{0}, counts...), append(slices.Clone(counts), -1), append(slices.Clone(counts), manyOf(0, 100)...), slices.Concat(counts, []int{math.MaxInt})}
	if len(counts) > 0 {
		all = append(all, nil, []int{}, counts[1:], counts[:len(counts)-1], slices.Concat(counts, counts))
	}
	for k, count := range counts {
		for _, number := range []int{count + 1, count - 1, count + 2, -1, -count, ^count, 0, 1, 2, count + 256, count + 1<<32, count - 1<<32, count + math.MinInt, math.MinInt, math.MaxInt} {
			if number != count {
				other := slices.Clone(counts)
				other[k] = number
				all = append(all, other)
			}
		}
		if k > 0 && counts[k-1] != count {
			other := slices.Clone(counts)
			other[k-1], other[k] = count, counts[k-1]
			all = append(all, other)
		}
	}
	return all
}

// P55: with too few counts, too many, or another one at any place a heap has no step.
func TestOtherCounts(t *testing.T) {
	check := func(h impl.Heap) {
		for _, counts := range otherCounts(refCountsOf(h)) {
			checkNotCounted(t, impl.Counted{Store: h, Counts: counts})
		}
	}
	eachHeapOf(1, 1, 2, check)
	eachHeapOf(2, 1, 2, check)
	eachHeapOf(3, 1, 1, check)
	for _, h := range slices.Concat(wideHeaps(), fullHeaps()) {
		check(h)
	}
	for cells := range impl.MaxCells + 1 {
		check(mixedHeap(cells, 0))
	}
}

// P55: without cells there are no counts.
func TestCountsWithoutCells(t *testing.T) {
	for _, cells := range [][]impl.Cell{nil, {}} {
		for _, counts := range [][]int{nil, {}} {
			checkCounted(t, impl.Counted{Store: heapWith(cells), Counts: counts})
			if c := (impl.Counted{Store: heapWith(cells), Counts: counts}); !impl.CountedValid(c) {
				t.Fatalf("CountedValid(%v) = false", c)
			}
		}
		for _, counts := range [][]int{{0}, {1}, {-1}, {0, 0}} {
			checkNotCounted(t, impl.Counted{Store: heapWith(cells), Counts: counts})
		}
	}
	checkNotCounted(t, impl.Counted{})
	checkNotCounted(t, impl.Counted{Counts: []int{0}})
	checkNotCounted(t, impl.Counted{Store: impl.Heap{Cells: []impl.Cell{{}}}, Counts: []int{0}})
}

// checkCountsLeft fails unless a heap with counts is valid, every used cell has a count greater than 0, and every other one has 0.
func checkCountsLeft(t *testing.T, c impl.Counted) {
	t.Helper()
	if !impl.CountedValid(c) || !validCounted(c) {
		t.Fatalf("%v is not valid", c)
	}
	for number, cell := range c.Store.Cells {
		if cell.Used != (c.Counts[number] > 0) {
			t.Fatalf("cell %d of %v has the count %d", number, c.Store, c.Counts[number])
		}
	}
}

// P56: the heap with counts stays valid; a program sees what StepHeap shows, if there is room; no used cell has the count 0, and no cell that can be reached is freed or moved.
func TestNothingThatCanBeReachedIsFreed(t *testing.T) {
	freed, reused := 0, 0
	eachStep(func(h impl.Heap, o impl.Command) {
		c := impl.Counted{Store: h, Counts: refCountsOf(h)}
		next, ok := impl.StepCounted(c, o)
		if !ok {
			if !sameCounted(next, c) || impl.CommandPossible(h, o) && (o.Op != impl.OpNew || firstUnused(h) < impl.MaxCells) {
				t.Fatalf("StepCounted(%v, %v) = %v, false", c, o, next)
			}
			return
		}
		checkCountsLeft(t, next)
		shown, room := impl.StepHeap(h, o)
		if !room {
			reused++
			return
		}
		if !checkSame(t, next.Store, shown) {
			t.Fatalf("StepCounted(%v, %v) = %v, and StepHeap shows %v", c, o, next, shown)
		}
		for number, reached := range reachableOf(shown) {
			if number < len(h.Cells) && reached && !sameCell(next.Store.Cells[number], shown.Cells[number]) {
				t.Fatalf("StepCounted(%v, %v) = %v, and cell %d could be reached", c, o, next, number)
			}
		}
		if usedCount(next.Store) < usedCount(shown) {
			freed++
		}
	})
	if freed == 0 || reused == 0 {
		t.Errorf("cells were freed in %d steps, and used again where StepHeap has no room in %d", freed, reused)
	}
}

// usedCount returns how many cells of a valid heap are used.
func usedCount(h impl.Heap) int {
	used, _ := usedCellsOf(h)
	return used
}

// P56: where a heap has MaxCells cells, but not all of them can be reached, a program sees what it sees where the lost ones are not there.
func TestUsedAgainWithoutRoom(t *testing.T) {
	seen := 0
	for _, h := range slices.Concat(oneUnused(), fullHeaps()) {
		if len(h.Cells) < impl.MaxCells || firstUnused(h) == impl.MaxCells {
			continue
		}
		small, ok := heapOfView(viewOf(h))
		if !ok {
			t.Fatalf("%v has no view", h)
		}
		for _, o := range commandsWith(0, 42) {
			next, done := impl.StepCounted(countedOf(h), o)
			shown, possible := impl.StepHeap(small, o)
			if done != possible {
				t.Fatalf("StepCounted(%v, %v) = %v, %v", h, o, next, done)
			}
			if !checkSame(t, next.Store, shown) {
				t.Fatalf("StepCounted(%v, %v) = %v, and a program sees %v", h, o, next, shown)
			}
			if o.Op == impl.OpNew {
				seen++
			}
		}
	}
	if seen == 0 {
		t.Error("no cell was used again")
	}
}

// leadsTo returns which cells of a valid heap a cell leads to by at least one reference.
func leadsTo(h impl.Heap, from int) []bool {
	return reachableOf(impl.Heap{Cells: h.Cells, Roots: h.Cells[from].Refs})
}

// checkLeaks fails unless all leaked cells of a valid heap are led to, and are part of a cycle, or a cycle leads to them.
func checkLeaks(t *testing.T, c impl.Counted) {
	t.Helper()
	leaked := impl.LeakedCells(c.Store)
	if want := leakedOf(c.Store); !slices.Equal(leaked, want) {
		t.Fatalf("LeakedCells(%v) = %v, not %v", c.Store, leaked, want)
	}
	fromCycles := make([]bool, len(c.Store.Cells))
	for _, number := range leaked {
		onward := leadsTo(c.Store, number)
		for k := range onward {
			fromCycles[k] = fromCycles[k] || onward[number] && onward[k]
		}
	}
	for _, number := range leaked {
		if c.Counts[number] <= 0 || !fromCycles[number] {
			t.Fatalf("cell %d of %v has leaked, with the count %d", number, c.Store, c.Counts[number])
		}
	}
}

// P57: a program sees the same as without freeing; what is used but cannot be reached has a count greater than 0: it is part of a cycle, or a cycle leads to it.
func TestCountingIsRightForEveryProgram(t *testing.T) {
	freed, leaked := 0, 0
	eachProgram(func(list []impl.Command) {
		checkCountedProgram(t, list)
		c, all := impl.RunCounted(list), impl.RunHeap(list)
		checkCountsLeft(t, c)
		checkLeaks(t, c)
		if !impl.SameView(c.Store, all) || !slices.Equal(viewOf(c.Store), viewOf(all)) {
			t.Fatalf("RunCounted(%v) = %v, and RunHeap shows %v", list, c, all)
		}
		if usedCount(c.Store) < usedCount(all) {
			freed++
		}
		if len(leakedOf(c.Store)) > 0 {
			leaked++
		}
	})
	if freed == 0 || leaked == 0 {
		t.Errorf("%d programs freed cells, and %d leaked some", freed, leaked)
	}
}

// P57: the heap with counts after a program is that after its last instruction, with that after those before it.
func TestCountedProgramsRunStepByStep(t *testing.T) {
	for _, list := range longPrograms() {
		c := countedOf(heapWith(nil))
		for k, o := range list {
			c, _ = impl.StepCounted(c, o)
			if got := impl.RunCounted(list[:k+1]); !sameCounted(got, c) {
				t.Fatalf("RunCounted(%v) = %v, not %v", list[:k+1], got, c)
			}
		}
	}
}

// P57: an instruction that is not possible is passed over, wherever it stands.
func TestCountedInstructionsArePassedOver(t *testing.T) {
	commands := commandsWith(0, 99)
	passed := 0
	for _, many := range []int{0, 1, 2, 5, 12, impl.MaxCommands - 1} {
		for turn := range 8 {
			list := mixedProgram(many, turn)
			want := runCountedOf(list)
			for k := range many + 1 {
				before := runCountedOf(list[:k])
				for _, o := range commands {
					if possibleCommand(before.Store, o) {
						continue
					}
					passed++
					if got := impl.RunCounted(slices.Insert(slices.Clone(list), k, o)); !sameCounted(got, want) {
						t.Fatalf("RunCounted(%v) with %v before instruction %d = %v, not %v", list, o, k, got, want)
					}
				}
			}
		}
	}
	if passed == 0 {
		t.Error("no instruction was passed over")
	}
}

// checkCountingGoesOn runs instructions, and fails unless after each of them a program sees the same as in a heap in which only what can be reached is left before it; it returns how many of them freed cells, and how many had no room.
func checkCountingGoesOn(t *testing.T, list []impl.Command) (int, int) {
	t.Helper()
	freed, refused := 0, 0
	c := countedOf(heapWith(nil))
	for _, o := range list {
		checkCountedStep(t, c, o)
		next, ok := impl.StepCounted(c, o)
		checkCountsLeft(t, next)
		checkLeaks(t, next)
		if !ok && possibleCommand(c.Store, o) {
			refused++
			continue
		}
		small, _ := heapOfView(viewOf(c.Store))
		if shown, _ := stepOf(small, o); !slices.Equal(viewOf(next.Store), viewOf(shown)) {
			t.Fatalf("StepCounted(%v, %v) = %v, and a program sees %v", c, o, next, shown)
		}
		if kept, _ := reusingOf(c.Store, o); usedCount(next.Store) < usedCount(kept) {
			freed++
		}
		c = next
	}
	return freed, refused
}

// P56: also in far more steps than a program has, until there is no room, and beyond that, a program sees the same.
func TestCountingForLong(t *testing.T) {
	freed, refused := 0, 0
	for turn := range 20 {
		var list []impl.Command
		for k := range 40 {
			list = append(list, mixedProgram(impl.MaxCommands, 40*turn+k)...)
		}
		more, full := checkCountingGoesOn(t, list)
		freed, refused = freed+more, refused+full
	}
	if freed == 0 || refused == 0 {
		t.Errorf("%d steps freed cells, and %d had no room", freed, refused)
	}
}

// P56: cells that leak one after the other take all places; then there is no room, until one of them is a root again.
func TestLeaksFillTheHeap(t *testing.T) {
	c := countedOf(heapWith(nil))
	for number := range impl.MaxCells {
		c, _ = impl.StepCounted(c, opNew(0, 1, number))
		c, _ = impl.StepCounted(c, opSet(0, 0, 0))
		if len(c.Store.Cells) != number+1 || c.Store.Roots[0] != number || c.Counts[number] != 2 {
			t.Fatalf("after %d cells the heap is %v", number+1, c)
		}
	}
	if leaked := impl.LeakedCells(c.Store); !slices.Equal(leaked, rangeOf(0, impl.MaxCells-2)) {
		t.Fatalf("LeakedCells(%v) = %v", c.Store, leaked)
	}
	for root := range impl.MaxRoots {
		if got, ok := impl.StepCounted(c, opNew(root, 0, 5)); ok || !sameCounted(got, c) {
			t.Fatalf("StepCounted(%v) = %v, %v for a new cell without room", c, got, ok)
		}
	}
	c, _ = impl.StepCounted(c, opSet(0, 1, 0))
	c, _ = impl.StepCounted(c, opDrop(0))
	c, ok := impl.StepCounted(c, opNew(2, 0, 5))
	if !ok || c.Store.Roots[2] != impl.MaxCells-1 || !slices.Equal(c.Counts, manyOf(1, impl.MaxCells)) {
		t.Fatalf("after a cell was freed the heap is %v, %v", c, ok)
	}
}

type countedProgram struct {
	name   string
	list   []impl.Command
	want   impl.Heap
	counts []int
	leaked []int
}

// freeingPrograms are programs after which nothing has leaked.
func freeingPrograms() []countedProgram {
	inTurn := make([]impl.Command, impl.MaxCommands)
	for k := range inTurn {
		inTurn[k] = opNew(k%4, 0, k)
	}
	var chain []impl.Command
	for k := range 12 {
		chain = append(chain, opNew(1, 1, k), opSet(1, 0, 0), opCopy(0, 1))
	}
	return []countedProgram{
		{"no instructions", nil, heapWith(nil), nil, nil},
		{"an empty list of instructions", []impl.Command{}, heapWith(nil), nil, nil},
		{"one new cell", []impl.Command{opNew(2, 1, 4)}, heapWith([]impl.Cell{usedCell(4, -1)}, -1, -1, 0), []int{1}, nil},
		{"a new cell over another one", []impl.Command{opNew(0, 0, 1), opNew(0, 0, 2)}, heapWith([]impl.Cell{{}, usedCell(2)}, 1), []int{0, 1}, nil},
		{"a new cell where another one was", []impl.Command{opNew(0, 0, 1), opNew(0, 0, 2), opNew(1, 0, 3)}, heapWith([]impl.Cell{usedCell(3), usedCell(2)}, 1, 0), []int{1, 1}, nil},
		{"a new cell after a drop", []impl.Command{opNew(0, 2, 1), opDrop(0), opNew(3, 1, 2)}, heapWith([]impl.Cell{usedCell(2, -1)}, -1, -1, -1, 0), []int{1}, nil},
		{"nothing is left", []impl.Command{opNew(0, 2, 1), opDrop(0)}, heapWith([]impl.Cell{{}}), []int{0}, nil},
		{"MaxCommands new cells as one root", slices.Repeat([]impl.Command{opNew(0, 1, 9)}, impl.MaxCommands), heapWith([]impl.Cell{{}, usedCell(9, -1)}, 1), []int{0, 1}, nil},
		{"MaxCommands new cells as all roots in turn", inTurn, heapWith([]impl.Cell{{}, usedCell(36), usedCell(37), usedCell(38), usedCell(39)}, 1, 2, 3, 4), []int{0, 1, 1, 1, 1}, nil},
		{"MaxCommands instructions that are passed over", slices.Repeat([]impl.Command{opGet(0, 0, 0)}, impl.MaxCommands), heapWith(nil), nil, nil},
		{"a row that grows at its beginning", chain, heapWith(chainOf(12), 11, 11), slices.Concat(manyOf(1, 11), []int{2}), nil},
		{"a row of which one root is left", slices.Concat(chain, []impl.Command{opDrop(0)}), heapWith(chainOf(12), -1, 11), manyOf(1, 12), nil},
		{"a row of which no root is left", slices.Concat(chain, []impl.Command{opDrop(0), opDrop(1)}), heapWith(make([]impl.Cell, 12)), make([]int, 12), nil},
		{"a row that is followed", slices.Concat(chain, []impl.Command{opDrop(1), opGet(0, 0, 0), opGet(0, 0, 0)}), heapWith(slices.Concat(chainOf(10), make([]impl.Cell, 2)), 9), slices.Concat(manyOf(1, 10), []int{0, 0}), nil},
		{"a cycle that is opened before its root is dropped", []impl.Command{opNew(0, 1, 1), opSet(0, 0, 0), opSet(0, 3, 0), opDrop(0)}, heapWith([]impl.Cell{{}}), []int{0}, nil},
		{"instructions that are passed over between others", []impl.Command{opData(1, 9), opNew(0, 0, 1), opSet(0, 0, 0), opCopy(1, 0), opGet(0, 1, 0), opDrop(0), opData(0, 3), opNew(1, 0, 2), opData(0, 8), opNew(0, 0, 4)}, heapWith([]impl.Cell{usedCell(4), usedCell(2)}, 0, 1), []int{1, 1}, nil},
	}
}

// leakingPrograms are programs after which cells are used that cannot be reached.
func leakingPrograms() []countedProgram {
	self := []impl.Command{opNew(0, 1, 9), opSet(0, 0, 0)}
	var selves []impl.Cell
	for number := range impl.MaxCommands / 2 {
		selves = append(selves, usedCell(9, number))
	}
	pair := []impl.Command{opNew(0, 1, 1), opNew(1, 2, 2), opSet(0, 1, 0), opSet(1, 0, 0), opNew(2, 0, 3), opSet(1, 2, 1)}
	return []countedProgram{
		{"a cell that refers to itself", slices.Concat(self, []impl.Command{opDrop(0)}), heapWith([]impl.Cell{usedCell(9, 0)}), []int{1}, []int{0}},
		{"the program of the document's example", []impl.Command{opNew(0, 1, 9), opSet(0, 0, 0), opDrop(0)}, heapWith([]impl.Cell{usedCell(9, 0)}), []int{1}, []int{0}},
		{"a cell that refers to itself, under a new one", slices.Concat(self, []impl.Command{opNew(0, 0, 1)}), heapWith([]impl.Cell{usedCell(9, 0), usedCell(1)}, 1), []int{1, 1}, []int{0}},
		{"a cell that refers to itself, with a root", self, heapWith([]impl.Cell{usedCell(9, 0)}, 0), []int{2}, nil},
		{"cells that refer to themselves, one after the other", slices.Repeat(self, impl.MaxCommands/2), heapWith(selves, 19), slices.Concat(manyOf(1, 19), []int{2}), rangeOf(0, 18)},
		{"two cells that refer to each other, and one to which only they refer", slices.Concat(pair, []impl.Command{opDrop(0), opDrop(2), opDrop(1)}), heapWith([]impl.Cell{usedCell(1, 1), usedCell(2, 0, 2), usedCell(3)}), []int{1, 1, 1}, []int{0, 1, 2}},
		{"two cells that refer to each other, and one that has a root too", slices.Concat(pair, []impl.Command{opDrop(0), opDrop(1)}), heapWith([]impl.Cell{usedCell(1, 1), usedCell(2, 0, 2), usedCell(3)}, -1, -1, 2), []int{1, 1, 2}, []int{0, 1}},
		{"two cells that refer to each other, between which a place is used again", slices.Concat([]impl.Command{opNew(3, 0, 0)}, pair, []impl.Command{opDrop(3), opDrop(0), opDrop(1), opNew(1, 0, 7)}), heapWith([]impl.Cell{usedCell(7), usedCell(1, 2), usedCell(2, 1, 3), usedCell(3)}, -1, 0, 3), []int{1, 1, 1, 2}, []int{1, 2}},
	}
}

// P45, P57: the heaps with counts after some programs, written out.
func TestOneCountedProgram(t *testing.T) {
	for _, c := range slices.Concat(freeingPrograms(), leakingPrograms()) {
		got, want := impl.RunCounted(c.list), impl.Counted{Store: c.want, Counts: c.counts}
		if !sameCounted(got, want) {
			t.Errorf("%s: RunCounted(%v) = %v, not %v", c.name, c.list, got, want)
		}
		if !impl.CountedValid(want) {
			t.Errorf("%s: CountedValid(%v) = false", c.name, want)
		}
		if leaked := impl.LeakedCells(c.want); !slices.Equal(leaked, c.leaked) {
			t.Errorf("%s: LeakedCells(%v) = %v, not %v", c.name, c.want, leaked, c.leaked)
		}
	}
}

type leakCase struct {
	name   string
	heap   impl.Heap
	leaked []int
}

// someLeaks are heaps with leaked cells and without.
func someLeaks() []leakCase {
	return []leakCase{
		{"no cells", heapWith(nil), nil},
		{"only cells that are not used", heapWith([]impl.Cell{{}, {}}), nil},
		{"a cell to which nothing leads", heapWith([]impl.Cell{usedCell(0)}), []int{0}},
		{"a root", heapWith([]impl.Cell{usedCell(0)}, 0), nil},
		{"a cell that refers to itself", heapWith([]impl.Cell{usedCell(0, 0)}), []int{0}},
		{"a cell that refers to itself, with a root", heapWith([]impl.Cell{usedCell(0, 0)}, -1, -1, -1, 0), nil},
		{"two cells that refer to each other, and one to which only they refer", heapWith([]impl.Cell{usedCell(0), usedCell(1, 2), usedCell(2, 1, 0)}), []int{0, 1, 2}},
		{"two cells that refer to each other and to a root", heapWith([]impl.Cell{usedCell(0), usedCell(1, 2), usedCell(2, 1, 0)}, 0), []int{1, 2}},
		{"a row before its root", heapWith([]impl.Cell{usedCell(0, 1), usedCell(1, 2), usedCell(2, 3), usedCell(3)}, 2), []int{0, 1}},
		{"a row that descends before its root", heapWith([]impl.Cell{usedCell(0), usedCell(1, 0), usedCell(2, 1), usedCell(3, 2)}, 1), []int{2, 3}},
		{"leaked cells between others", heapWith([]impl.Cell{{}, usedCell(1), {}, usedCell(3), usedCell(4), {}, usedCell(6)}, 3), []int{1, 4, 6}},
		{"MaxCells leaked cells", heapWith(chainOf(impl.MaxCells)), rangeOf(0, impl.MaxCells-1)},
		{"MaxCells cells in a row from its root on", heapWith(chainOf(impl.MaxCells), impl.MaxCells-1), nil},
		{"MaxCells cells, half of which have leaked", heapWith(chainOf(impl.MaxCells), impl.MaxCells/2-1), rangeOf(impl.MaxCells/2, impl.MaxCells-1)},
	}
}

// P45: the leaked cells of single heaps, written out.
func TestOneLeak(t *testing.T) {
	for _, c := range someLeaks() {
		if got := impl.LeakedCells(c.heap); !slices.Equal(got, c.leaked) {
			t.Errorf("%s: LeakedCells(%v) = %v, not %v", c.name, c.heap, got, c.leaked)
		}
	}
}

// P45: there are at most as many reached cells as used ones, and as many as MetOrder lists; the difference is that of the leaked cells, which are the used ones that cannot be reached, in ascending order.
func TestReachedCellsAreUsed(t *testing.T) {
	lost := 0
	eachHeap(func(h impl.Heap) {
		used, live := impl.UsedCells(h)
		leaked, met := impl.LeakedCells(h), impl.MetOrder(h)
		if live > used || live != len(met) || used-live != len(leaked) {
			t.Fatalf("UsedCells(%v) = %d, %d, with %v in MetOrder and %v leaked", h, used, live, met, leaked)
		}
		if want := leakedOf(h); !slices.Equal(leaked, want) {
			t.Fatalf("LeakedCells(%v) = %v, not %v", h, leaked, want)
		}
		for number, reached := range impl.Reachable(h) {
			_, isLeaked := slices.BinarySearch(leaked, number)
			if reached && !h.Cells[number].Used || isLeaked != (h.Cells[number].Used && !reached) {
				t.Fatalf("LeakedCells(%v) = %v, and cell %d can be reached: %v", h, leaked, number, reached)
			}
		}
		lost += len(leaked)
	})
	if lost == 0 {
		t.Error("no cell has leaked")
	}
}

// P45, P55, P56: a heap that is invalid in any way is not valid with any counts, has no step and no leaked cells.
func TestCountsOfInvalidHeaps(t *testing.T) {
	for _, h := range invalidHeaps() {
		if got := impl.LeakedCells(h); len(got) != 0 {
			t.Fatalf("LeakedCells(%v) = %v", h, got)
		}
		cells := len(h.Cells)
		for _, counts := range [][]int{nil, {}, refCountsOf(h), make([]int, cells), manyOf(1, cells), manyOf(-1, cells), impl.RefCounts(h)} {
			checkNotCounted(t, impl.Counted{Store: h, Counts: counts})
		}
	}
}

// P56: an invalid instruction has no step, whatever the heap with counts is.
func TestInvalidInstructionsWithCounts(t *testing.T) {
	odd := oddCommands()
	heaps := slices.Concat(fullHeaps(), []impl.Heap{heapWith(nil), heapWith([]impl.Cell{{}}), heapWith([]impl.Cell{usedCell(1)}), heapWith([]impl.Cell{usedCell(5, 0, 0, 0)}, 0, 0, 0, 0), heapWith([]impl.Cell{usedCell(1, 1), usedCell(2, 0, -1)}, 1, -1, 0)})
	for _, h := range heaps {
		c := countedOf(h)
		for _, o := range odd {
			checkNoCountedStep(t, c, o)
		}
	}
	for _, c := range commandNumbers() {
		if !c.want {
			checkNoCountedStep(t, countedOf(heapWith([]impl.Cell{usedCell(5, 0, 0, 0)}, 0, 0, 0, 0)), c.command)
			checkNoCountedProgram(t, []impl.Command{c.command})
		}
	}
}

// eachInvalidProgram calls check with programs that are too long, and with such that have an invalid instruction, wherever it stands.
func eachInvalidProgram(check func(list []impl.Command)) {
	for _, o := range []impl.Command{opNew(0, 3, 0), opGet(0, 0, 0), opSet(0, 0, 0), opCopy(0, 0), opDrop(0), opData(0, 0)} {
		for _, many := range append(rangeOf(impl.MaxCommands+1, 139), 256, 257, 1<<16, 100000) {
			check(slices.Repeat([]impl.Command{o}, many))
		}
	}
	odd := oddCommands()
	for turn, many := range []int{1, 2, 3, 7, impl.MaxCommands - 1, impl.MaxCommands} {
		list := mixedProgram(many, turn)
		for k := range list {
			other := slices.Clone(list)
			for _, o := range odd {
				other[k] = o
				check(other)
			}
		}
	}
	check(make([]impl.Command, 1))
	check(make([]impl.Command, impl.MaxCommands+1))
}

// P57: programs that are too long, or have an invalid instruction, wherever it stands, have no heap with counts.
func TestInvalidProgramsWithCounts(t *testing.T) {
	eachInvalidProgram(func(list []impl.Command) { checkNoCountedProgram(t, list) })
	for _, o := range []impl.Command{opNew(0, 3, 0), opGet(0, 0, 0), opSet(0, 0, 0), opCopy(0, 0), opDrop(0), opData(0, 0)} {
		for many := range impl.MaxCommands + 1 {
			checkCountedProgram(t, slices.Repeat([]impl.Command{o}, many))
		}
	}
}

// TestCountsReturnForAllNumbers: for every number of an instruction, a root, a reference, Data or a count the functions return what the chapter gives.
func TestCountsReturnForAllNumbers(t *testing.T) {
	numbers := manyNumbers()
	few := countedOf(heapWith([]impl.Cell{usedCell(0, 0), {}, usedCell(99, -1, 2, 0)}, 0, -1, 2))
	for _, o := range []impl.Command{opNew(0, 1, 5), opGet(1, 2, 2), opSet(2, 1, 0), opCopy(2, 0), opDrop(0), opData(2, 50)} {
		eachNumber(o, func(o *impl.Command, place *int) {
			for _, number := range numbers {
				*place = number
				checkCountedStep(t, few, *o)
				checkCountedStep(t, countedOf(heapWith(nil)), *o)
				checkCountedProgram(t, []impl.Command{*o})
				checkCountedProgram(t, []impl.Command{opNew(0, 3, 1), opCopy(1, 0), opCopy(2, 0), opCopy(3, 0), *o})
			}
		})
	}
	other := copyOfCounted(few)
	change := func(place *int) {
		before := *place
		for _, number := range numbers {
			*place = number
			checkCounted(t, other)
			checkCounted(t, impl.Counted{Store: other.Store, Counts: refCountsOf(other.Store)})
		}
		*place = before
	}
	eachPlace(other.Store, change)
	for k := range other.Counts {
		change(&other.Counts[k])
		change(&other.Store.Cells[k].Data)
	}
	for many := range 70 {
		for number := -1; number <= 2; number++ {
			checkCounted(t, impl.Counted{Store: few.Store, Counts: manyOf(number, many)})
			checkCounted(t, impl.Counted{Store: heapWith(make([]impl.Cell, many)), Counts: manyOf(number, many)})
		}
	}
}

// TestCountsOfExtremeNumbers: for instructions, heaps and counts whose numbers are all very large or very small the functions return what the chapter gives.
func TestCountsOfExtremeNumbers(t *testing.T) {
	extremes := []int{math.MinInt, math.MinInt + 1, -1 << 32, -1, 0, 1, 2, 3, 1 << 32, math.MaxInt - 1, math.MaxInt}
	c := countedOf(heapWith([]impl.Cell{usedCell(5, 0, 0, 0)}, 0, 0, 0, 0))
	for _, x := range extremes {
		for _, y := range extremes {
			for _, z := range extremes {
				for op := impl.OpNew - 1; op <= impl.OpData+1; op++ {
					o := impl.Command{Op: op, A: x, B: y, C: z}
					checkCountedStep(t, c, o)
					checkCountedProgram(t, []impl.Command{opNew(0, 3, 1), o})
				}
				checkNoCountedStep(t, c, impl.Command{Op: x, A: y, B: z, C: -1})
				h := heapWith([]impl.Cell{usedCell(x, y)}, z)
				for _, counts := range [][]int{{x}, {y}, {z}, refCountsOf(h)} {
					checkCounted(t, impl.Counted{Store: h, Counts: counts})
				}
				checkCounted(t, impl.Counted{Store: impl.Heap{Roots: []int{x, y, z, -1}}, Counts: []int{x, y, z}})
			}
		}
	}
}

// P55, P56: nil and empty slices are the same.
func TestNilAndEmptySlicesOfCounts(t *testing.T) {
	for _, o := range commandsWith(0, 42) {
		for _, cells := range [][]impl.Cell{nil, {}} {
			for _, counts := range [][]int{nil, {}} {
				checkCountedStep(t, impl.Counted{Store: heapWith(cells), Counts: counts}, o)
			}
		}
		for _, refs := range [][]int{nil, {}} {
			checkCountedStep(t, impl.Counted{Store: heapWith([]impl.Cell{{Refs: refs}, {Used: true, Refs: refs}}, 1, -1, 1), Counts: []int{0, 2}}, o)
		}
	}
	checkCountedProgram(t, nil)
	checkCountedProgram(t, []impl.Command{})
}

// TestCountsThatShareMemory: the counts and the slices of a heap may be the same ones; nevertheless only what the instruction names changes.
func TestCountsThatShareMemory(t *testing.T) {
	numbers := []int{1, 2, 3, 1}
	cells := []impl.Cell{usedCell(1, 2, 2), usedCell(2, 0), usedCell(3, numbers[4:]...), usedCell(4)}
	short := []int{1, 1}
	for _, c := range []impl.Counted{
		{Store: impl.Heap{Cells: cells, Roots: numbers}, Counts: numbers},
		{Store: heapWith([]impl.Cell{usedCell(1, short[:1]...), usedCell(2)}, 0), Counts: short},
	} {
		if !impl.CountedValid(c) {
			t.Fatalf("CountedValid(%v) = false", c)
		}
		before := copyOfCounted(c)
		for _, o := range commandsWith(0, 42) {
			checkCountedStep(t, c, o)
			if !sameCounted(c, before) {
				t.Fatalf("after %v %v is %v", o, before, c)
			}
		}
	}
}

// checkCountsShareNothing fails if the functions of the chapter change a heap with counts or the spare capacity of its slices, or if overwriting their results, with the spare capacity, changes it or another result.
func checkCountsShareNothing(t *testing.T, c impl.Counted, o impl.Command) {
	t.Helper()
	s := spareOf(c.Store)
	counts, wholeCounts := withSpare(c.Counts)
	same := impl.Counted{Store: s.heap, Counts: counts}
	state := func() []int { return slices.Concat(s.state(), wholeCounts) }
	before := state()
	impl.CountedValid(same)
	next, ok := impl.StepCounted(same, o)
	other, _ := impl.StepCounted(same, o)
	leaked, otherLeaked := impl.LeakedCells(same.Store), impl.LeakedCells(same.Store)
	if !slices.Equal(state(), before) {
		t.Fatalf("after %v %v is %v", o, c, same)
	}
	want, wantLeaked := copyOfCounted(next), slices.Clone(leaked)
	overwriteHeap(t, next.Store, next.Counts, leaked)
	if !slices.Equal(state(), before) {
		t.Fatalf("%v shares memory with a result of %v", c, o)
	}
	if again, done := impl.StepCounted(same, o); done != ok || !sameCounted(again, want) || !sameCounted(other, want) {
		t.Fatalf("results of %v after %v share memory", c, o)
	}
	if !slices.Equal(otherLeaked, wantLeaked) || !slices.Equal(impl.LeakedCells(same.Store), wantLeaked) {
		t.Fatalf("lists of leaked cells of %v share memory", c.Store)
	}
}

// TestCountsShareNothing: no heap with counts changes, valid or not, whether the instruction is possible or not, not even when the result is overwritten, and neither does another result.
func TestCountsShareNothing(t *testing.T) {
	commands := commandsWith(42)
	eachHeapOf(2, 2, 1, func(h impl.Heap) {
		for _, o := range commands {
			checkCountsShareNothing(t, countedOf(h), o)
		}
	})
	for cells := range impl.MaxCells + 1 {
		for _, o := range commands {
			checkCountsShareNothing(t, countedOf(mixedHeap(cells, cells)), o)
		}
	}
	few := []impl.Command{opNew(1, 3, 8), opGet(1, 0, 0), opGet(3, 3, 2), opSet(0, 1, 0), opCopy(1, 0), opDrop(0), opData(0, 8), opData(3, 8), {}}
	for _, h := range slices.Concat(fullHeaps(), invalidHeaps()) {
		for _, o := range few {
			checkCountsShareNothing(t, countedOf(h), o)
			checkCountsShareNothing(t, impl.Counted{Store: h, Counts: manyOf(-1, len(h.Cells)+1)}, o)
		}
	}
}

// TestLaterCountedStepsChangeNothing: the heaps with counts before and after every instruction of a program stay as they are while it goes on, also if two programs go on from the same one.
func TestLaterCountedStepsChangeNothing(t *testing.T) {
	for _, list := range longPrograms() {
		var all, states []impl.Counted
		keep := func(c impl.Counted) {
			all, states = append(all, c), append(states, copyOfCounted(c))
		}
		c := impl.Counted{Store: impl.EmptyHeap()}
		for _, o := range list {
			for _, aside := range []impl.Command{opNew(0, 2, 77), opSet(0, 0, 0), opData(0, 78), opDrop(0)} {
				other, _ := impl.StepCounted(c, aside)
				keep(other)
			}
			c, _ = impl.StepCounted(c, o)
			keep(c)
		}
		for k := range all {
			if !sameCounted(all[k], states[k]) {
				t.Fatalf("while %v ran %v became %v", list, states[k], all[k])
			}
		}
	}
}

// TestCountedProgramsShareNothing: no program changes, valid or not, not even when the heap with counts after it is overwritten, and neither does another result.
func TestCountedProgramsShareNothing(t *testing.T) {
	check := func(list []impl.Command) {
		part, whole := withSpareCommands(list)
		before := slices.Clone(whole)
		c, other := impl.RunCounted(part), impl.RunCounted(part)
		want := copyOfCounted(c)
		overwriteHeap(t, c.Store, c.Counts)
		if !slices.Equal(whole, before) {
			t.Fatalf("the program %v became %v", before, whole)
		}
		if again := impl.RunCounted(part); !sameCounted(other, want) || !sameCounted(again, want) {
			t.Fatalf("results of the program %v share memory", list)
		}
	}
	for _, list := range longPrograms() {
		check(list)
		check(slices.Concat(list, []impl.Command{{}}))
	}
	check(slices.Repeat([]impl.Command{opNew(0, 3, 1)}, impl.MaxCommands+1))
}
