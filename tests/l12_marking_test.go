package tests

import (
	"math"
	"slices"
	"testing"

	"loop.example/memorymanagers/impl"
)

// markDepthOf is what MarkDepth must return for a valid heap, from its definition.
func markDepthOf(h impl.Heap) []int {
	var met []int
	var meet func(numbers []int)
	meet = func(numbers []int) {
		for _, number := range numbers {
			if number != -1 && !slices.Contains(met, number) {
				met = append(met, number)
				meet(h.Cells[number].Refs)
			}
		}
	}
	meet(h.Roots)
	return met
}

// markBoundedOf is what MarkBounded must return for a valid heap and a number of places in 1..MaxCells, from its definition, sentence by sentence.
func markBoundedOf(h impl.Heap, places int) ([]bool, int) {
	marks := make([]bool, len(h.Cells))
	isOpen := func(number int) bool { return number != -1 && !marks[number] }
	refersToOpen := func(number int) bool { return marks[number] && slices.ContainsFunc(h.Cells[number].Refs, isOpen) }
	workOff := func(first int) {
		stack := []int{first}
		for len(stack) > 0 {
			top := stack[len(stack)-1]
			stack = stack[:len(stack)-1]
			for _, number := range h.Cells[top].Refs {
				if !isOpen(number) {
					continue
				}
				marks[number] = true
				if len(stack) < places {
					stack = append(stack, number)
				}
			}
		}
	}
	for _, number := range h.Roots {
		if isOpen(number) {
			marks[number] = true
			workOff(number)
		}
	}
	for passes := 1; ; passes++ {
		again := false
		for number := range h.Cells {
			again = again || refersToOpen(number)
		}
		if !again {
			return marks, passes
		}
		for number := range h.Cells {
			if refersToOpen(number) {
				workOff(number)
			}
		}
	}
}

// placesFor returns numbers of places for a heap: all that can matter if there are few cells, and otherwise all.
func placesFor(h impl.Heap) []int {
	if len(h.Cells) <= 4 {
		return append(rangeOf(1, len(h.Cells)+1), impl.MaxCells)
	}
	return rangeOf(1, impl.MaxCells)
}

// checkBounded compares MarkBounded of a valid heap and a number of places in 1..MaxCells with its definition, and returns the number of passes.
func checkBounded(t *testing.T, h impl.Heap, places int) int {
	t.Helper()
	want, wantPasses := markBoundedOf(h, places)
	got, passes := impl.MarkBounded(h, places)
	if !slices.Equal(got, want) || passes != wantPasses {
		t.Fatalf("MarkBounded(%v, %d) = %v, %d, not %v, %d", h, places, got, passes, want, wantPasses)
	}
	return passes
}

// checkMarking compares the functions of the chapter with their definitions for a valid heap, and returns the greatest number of passes.
func checkMarking(t *testing.T, h impl.Heap) int {
	t.Helper()
	if got, want := impl.MarkDepth(h), markDepthOf(h); !slices.Equal(got, want) {
		t.Fatalf("MarkDepth(%v) = %v, not %v", h, got, want)
	}
	most := 0
	for _, places := range placesFor(h) {
		most = max(most, checkBounded(t, h, places))
	}
	return most
}

// checkNoMarks fails unless MarkBounded returns nil and -1.
func checkNoMarks(t *testing.T, h impl.Heap, places int) {
	t.Helper()
	if got, passes := impl.MarkBounded(h, places); len(got) != 0 || passes != -1 {
		t.Fatalf("MarkBounded(%v, %d) = %v, %d", h, places, got, passes)
	}
}

// checkNoMarking fails unless an invalid heap has the results that the chapter gives for it, with every number of places.
func checkNoMarking(t *testing.T, h impl.Heap) {
	t.Helper()
	if got := impl.MarkDepth(h); len(got) != 0 {
		t.Fatalf("MarkDepth(%v) = %v", h, got)
	}
	for _, places := range append(rangeOf(-1, impl.MaxCells+1), math.MinInt, math.MaxInt) {
		checkNoMarks(t, h, places)
	}
}

// checkMarkingOf checks a heap that may be valid or not.
func checkMarkingOf(t *testing.T, h impl.Heap) {
	t.Helper()
	if validHeap(h) {
		checkMarking(t, h)
	} else {
		checkNoMarking(t, h)
	}
}

// oddStacks are numbers of places that no stack has, among them such whose last bits would do.
var oddStacks = []int{0, -1, -2, -40, -41, -64, -256, -1 << 31, -1 << 32, 1<<32 - 1<<33 + 5, math.MinInt, math.MinInt + 1, math.MinInt + 40, 41, 42, 63, 64, 65, 80, 128, 256, 257, 1 << 16, 1 << 31, 1 << 32, 1<<32 + 1, 1<<32 + 40, math.MaxInt - 1, math.MaxInt}

// grownHeap returns a heap with a number of cells, which is at least 1, that follows no visible rule, another one for every turn: each cell but the first one is put behind another one, and some refer to further ones; all of them can be reached, and stand anywhere.
func grownHeap(cells, turn int) impl.Heap {
	state := uint32(cells*1000 + turn)
	next := func(below int) int {
		state = state*1664525 + 1013904223
		return int(state>>16) % below
	}
	h := heapWith(make([]impl.Cell, cells), 0)
	places := rangeOf(0, cells-1)
	for number := range h.Cells {
		h.Cells[number].Used = true
		other := next(number + 1)
		places[number], places[other] = places[other], places[number]
	}
	lead := func(from, to int) bool {
		refs := h.Cells[from].Refs
		if from == to || len(refs) == impl.MaxRefs {
			return false
		}
		h.Cells[from].Refs = slices.Insert(refs, next(len(refs)+1), to)
		return true
	}
	for number := 1; number < cells; number++ {
		for !lead(next(number), number) {
		}
	}
	for range next(cells + 1) {
		lead(next(cells), next(cells))
	}
	return placed(h, cells, places)
}

// eachMarked calls check with the heaps of eachLinked, with some in which nothing is lost, and with some large ones whose cells stand in different orders.
func eachMarked(check func(h impl.Heap)) {
	eachLinked(check)
	for cells := 5; cells <= impl.MaxCells; cells++ {
		for turn := range 20 {
			check(grownHeap(cells, turn))
		}
	}
	for _, h := range slices.Concat(wideHeaps(), fullHeaps(), oneUnused()) {
		check(h)
		for _, other := range elsewhere(h) {
			check(other)
		}
	}
}

// TestMarkingIsTheDefinition: for all heaps of some kinds, and for others, the functions of the chapter return what it defines.
func TestMarkingIsTheDefinition(t *testing.T) {
	seen := map[int]int{}
	eachMarked(func(h impl.Heap) { seen[checkMarking(t, h)]++ })
	for passes := 1; passes <= 3; passes++ {
		if seen[passes] == 0 {
			t.Errorf("no heap needs %d passes: %v", passes, seen)
		}
	}
}

// markCase is a heap with what MarkDepth returns for it, and in how many passes it is marked with 1, 2 .. places; with more places there are as many as with the last number that is written down.
type markCase struct {
	name   string
	heap   impl.Heap
	depth  []int
	passes []int
}

// marksInRows are rows and cycles, for which one place is enough.
func marksInRows() []markCase {
	last := impl.MaxCells - 1
	ring := make([]impl.Cell, impl.MaxCells)
	for number := range ring {
		ring[number] = usedCell(number, (number+1)%impl.MaxCells)
	}
	down := rangeOf(0, last)
	slices.Reverse(down)
	once := []int{1}
	return []markCase{
		{"a row that ascends", heapWith([]impl.Cell{usedCell(1, 1), usedCell(2, 2), usedCell(3)}, 0), []int{0, 1, 2}, once},
		{"a row that descends", heapWith([]impl.Cell{usedCell(1), usedCell(2, 0), usedCell(3, 1)}, 2), []int{2, 1, 0}, once},
		{"a row up and down", heapWith([]impl.Cell{usedCell(1, 3), usedCell(2), usedCell(3, 1), usedCell(4, 2)}, 0), []int{0, 3, 2, 1}, once},
		{"a row from its middle on", heapWith([]impl.Cell{usedCell(1, 1), usedCell(2, 2), usedCell(3)}, 1), []int{1, 2}, once},
		{"a row with references that are -1", heapWith([]impl.Cell{usedCell(1, -1, 1, -1), usedCell(2, -1, -1, 2), usedCell(3, -1)}, 0), []int{0, 1, 2}, once},
		{"a row of cells that refer to themselves too", heapWith([]impl.Cell{usedCell(1, 0, 1), usedCell(2, 1, 2, 1), usedCell(3, 2)}, 0), []int{0, 1, 2}, once},
		{"a row with two references to the same cell", heapWith([]impl.Cell{usedCell(1, 1, 1), usedCell(2, 2, 2, 2), usedCell(3)}, 0), []int{0, 1, 2}, once},
		{"a row with references back", heapWith([]impl.Cell{usedCell(1, 1), usedCell(2, 0, 2), usedCell(3, 1, 0, 3), usedCell(4)}, 0), []int{0, 1, 2, 3}, once},
		{"a row of MaxCells cells", heapWith(chainOf(impl.MaxCells), last), down, once},
		{"a cell that refers to itself", heapWith([]impl.Cell{usedCell(1, 0)}, 0), []int{0}, once},
		{"a cell that refers to itself with each of its references", heapWith([]impl.Cell{usedCell(1, 0, 0, 0)}, -1, 0), []int{0}, once},
		{"two cells that refer to each other", heapWith([]impl.Cell{usedCell(1, 1), usedCell(2, 0)}, 1), []int{1, 0}, once},
		{"a cycle that ascends", heapWith([]impl.Cell{usedCell(1, 1), usedCell(2, 2), usedCell(3, 0)}, 1), []int{1, 2, 0}, once},
		{"a cycle that descends", heapWith([]impl.Cell{usedCell(1, 2), usedCell(2, 0), usedCell(3, 1)}, 1), []int{1, 0, 2}, once},
		{"a cycle of MaxCells cells", heapWith(ring, 17), slices.Concat(rangeOf(17, last), rangeOf(0, 16)), once},
		{"a row that ends in a cycle", heapWith([]impl.Cell{usedCell(1, 1), usedCell(2, 2), usedCell(3, 3), usedCell(4, 2)}, 0), []int{0, 1, 2, 3}, once},
	}
}

// marksOfTwoAndThree are heaps with cells of two and three references, for not all of which there is room.
func marksOfTwoAndThree() []markCase {
	leaf := usedCell(0)
	return []markCase{
		{"two references to cells without any", heapWith([]impl.Cell{usedCell(1, 1, 2), leaf, leaf}, 0), []int{0, 1, 2}, []int{1}},
		{"three references to cells without any", heapWith([]impl.Cell{usedCell(1, 3, 1, 2), leaf, leaf, leaf}, 0), []int{0, 3, 1, 2}, []int{1}},
		{"the first of two leads on", heapWith([]impl.Cell{usedCell(1, 1, 2), usedCell(2, 3), leaf, leaf}, 0), []int{0, 1, 3, 2}, []int{1}},
		{"the second of two leads on", heapWith([]impl.Cell{usedCell(1, 1, 2), leaf, usedCell(3, 3), leaf}, 0), []int{0, 1, 2, 3}, []int{2, 1}},
		{"both lead on", heapWith([]impl.Cell{usedCell(1, 1, 2), usedCell(2, 3), usedCell(3, 4), leaf, leaf}, 0), []int{0, 1, 3, 2, 4}, []int{2, 1}},
		{"the first of three leads on", heapWith([]impl.Cell{usedCell(1, 1, 2, 3), usedCell(2, 4), leaf, leaf, leaf}, 0), []int{0, 1, 4, 2, 3}, []int{1}},
		{"the second of three leads on", heapWith([]impl.Cell{usedCell(1, 1, 2, 3), leaf, usedCell(3, 4), leaf, leaf}, 0), []int{0, 1, 2, 4, 3}, []int{2, 1}},
		{"the third of three leads on", heapWith([]impl.Cell{usedCell(1, 1, 2, 3), leaf, leaf, usedCell(4, 4), leaf}, 0), []int{0, 1, 2, 3, 4}, []int{2, 2, 1}},
		{"all three lead on", heapWith([]impl.Cell{usedCell(1, 1, 2, 3), usedCell(2, 4), usedCell(3, 5), usedCell(4, 6), leaf, leaf, leaf}, 0), []int{0, 1, 4, 2, 5, 3, 6}, []int{2, 2, 1}},
		{"all three lead on to the same cell", heapWith([]impl.Cell{usedCell(1, 1, 2, 3), usedCell(2, 4), usedCell(3, 4), usedCell(4, 4), leaf}, 0), []int{0, 1, 4, 2, 3}, []int{1}},
		{"a reference that is -1 takes no room", heapWith([]impl.Cell{usedCell(1, -1, 2, -1), leaf, usedCell(3, 3), leaf}, 0), []int{0, 2, 3}, []int{1}},
		{"a reference to the cell itself takes no room", heapWith([]impl.Cell{usedCell(1, 0, 2), leaf, usedCell(3, 3), leaf}, 0), []int{0, 2, 3}, []int{1}},
		{"two references to the same cell take one place", heapWith([]impl.Cell{usedCell(1, 1, 1, 2), leaf, usedCell(3, 3), leaf}, 0), []int{0, 1, 2, 3}, []int{2, 1}},
		{"a cell that was taken away takes no room", heapWith([]impl.Cell{usedCell(1, 1), usedCell(2, 2, 3), leaf, leaf}, 0), []int{0, 1, 2, 3}, []int{1}},
		{"the last cell that was put on the stack is taken first", heapWith([]impl.Cell{usedCell(1, 1, 2), usedCell(2, 3), usedCell(3, 4, 5), leaf, leaf, usedCell(6, 6), leaf}, 0), []int{0, 1, 3, 2, 4, 5, 6}, []int{2, 2, 1}},
	}
}

// marksOnly are heaps with cells that are only marked, and met once more before the next pass.
func marksOnly() []markCase {
	leaf := usedCell(0)
	return []markCase{
		{"a second way leads to a cell that was only marked", heapWith([]impl.Cell{usedCell(1, 1, 2), usedCell(2, 2), usedCell(3, 3), leaf}, 0), []int{0, 1, 2, 3}, []int{2, 1}},
		{"what it refers to is met on another way", heapWith([]impl.Cell{usedCell(1, 1, 2), usedCell(2, 3), usedCell(3, 3), leaf}, 0), []int{0, 1, 3, 2}, []int{1}},
		{"one of the cells to which it refers is met on another way", heapWith([]impl.Cell{usedCell(1, 1, 2), usedCell(2, 3), usedCell(3, 3, 4), leaf, leaf}, 0), []int{0, 1, 3, 2, 4}, []int{2, 1}},
		{"it refers back", heapWith([]impl.Cell{usedCell(1, 1, 2), leaf, usedCell(3, 0)}, 0), []int{0, 1, 2}, []int{1}},
		{"it refers back, to itself, and to nothing", heapWith([]impl.Cell{usedCell(1, 1, 2), leaf, usedCell(3, 0, 2, -1)}, 0), []int{0, 1, 2}, []int{1}},
		{"its third reference alone leads on", heapWith([]impl.Cell{usedCell(1, 1, 2), leaf, usedCell(3, 0, -1, 3), leaf}, 0), []int{0, 1, 2, 3}, []int{2, 1}},
		{"it leads on to a cycle", heapWith([]impl.Cell{usedCell(1, 1, 2), leaf, usedCell(3, 3), usedCell(4, 4), usedCell(5, 3, 0)}, 0), []int{0, 1, 2, 3, 4}, []int{2, 1}},
		{"it is part of a cycle", heapWith([]impl.Cell{usedCell(1, 1, 2), usedCell(2, 0), usedCell(3, 3), usedCell(4, 1, 0)}, 0), []int{0, 1, 2, 3}, []int{2, 1}},
		{"it leads on to a cell that refers to it", heapWith([]impl.Cell{usedCell(1, 1, 2), leaf, usedCell(3, 3), usedCell(4, 2, 4), leaf}, 0), []int{0, 1, 2, 3, 4}, []int{2, 1}},
		{"a later root leads to it", heapWith([]impl.Cell{usedCell(1, 1, 2), leaf, usedCell(3, 3), leaf}, 0, 2), []int{0, 1, 2, 3}, []int{2, 1}},
		{"an earlier root leads to it", heapWith([]impl.Cell{usedCell(1, 1, 2), leaf, usedCell(3, 3), leaf}, 2, 0), []int{2, 3, 0, 1}, []int{1}},
		{"a later root leads to the cell to which it refers", heapWith([]impl.Cell{usedCell(1, 1, 2), leaf, usedCell(3, 3), leaf}, 0, -1, 3), []int{0, 1, 2, 3}, []int{1}},
		{"two roots leave one each", heapWith([]impl.Cell{usedCell(1, 2, 3), usedCell(2, 4, 5), leaf, usedCell(4, 6), leaf, usedCell(6, 7), leaf, leaf}, 0, 1), []int{0, 2, 3, 6, 1, 4, 5, 7}, []int{2, 1}},
	}
}

// marksInOrder are heaps in which a further pass leaves cells with higher and with lower numbers than the one that it looks at.
func marksInOrder() []markCase {
	leaf, none := usedCell(0), impl.Cell{}
	return []markCase{
		{"a higher cell is met in the same pass", heapWith([]impl.Cell{usedCell(1, 1, 2), leaf, usedCell(3, 3, 4), leaf, usedCell(5, 5), leaf}, 0), []int{0, 1, 2, 3, 4, 5}, []int{2, 2, 1}},
		{"a lower cell is met in the next pass", heapWith([]impl.Cell{leaf, usedCell(2, 0), leaf, usedCell(4, 4, 5), leaf, usedCell(6, 2, 1)}, 3), []int{3, 4, 5, 2, 1, 0}, []int{3, 2, 1}},
		{"a lower and a higher cell", heapWith([]impl.Cell{leaf, usedCell(2, 0), none, none, usedCell(5, 5, 6), leaf, usedCell(7, 7, 1, 8), leaf, usedCell(9, 9), leaf}, 4), []int{4, 5, 6, 7, 1, 0, 8, 9}, []int{3, 2, 2, 1}},
		{"a lower cell is left in the first pass", heapWith([]impl.Cell{leaf, usedCell(2, 0), usedCell(3, 3, 1), leaf}, 2), []int{2, 3, 1, 0}, []int{2, 1}},
		{"what a lower cell refers to is met from a higher one in the same pass", heapWith([]impl.Cell{usedCell(1, 7), usedCell(2, 3, 4), none, leaf, usedCell(5, 6, 0, 5), usedCell(6, 7), leaf, leaf}, 1), []int{1, 3, 4, 6, 0, 7, 5}, []int{2, 2, 1}},
		{"every lower cell takes a pass of its own", heapWith([]impl.Cell{leaf, usedCell(2, 0), leaf, usedCell(4, 2, 1), leaf, usedCell(6, 4, 3), leaf, usedCell(8, 6, 5)}, 7), []int{7, 6, 5, 4, 3, 2, 1, 0}, []int{4, 2, 2, 1}},
		{"every higher cell is met in the second pass", heapWith([]impl.Cell{usedCell(1, 1, 2), leaf, usedCell(3, 3, 4), leaf, usedCell(5, 5, 6), leaf, usedCell(7, 7), leaf}, 0), []int{0, 1, 2, 3, 4, 5, 6, 7}, []int{2, 2, 2, 1}},
	}
}

// marksFromRoots are heaps in which roots are -1, and in which several lead to the same cells.
func marksFromRoots() []markCase {
	leaf := usedCell(0)
	pair := []impl.Cell{usedCell(1, 1), leaf}
	return []markCase{
		{"no root leads to a cell", heapWith(pair), nil, []int{1}},
		{"the last root alone", heapWith(pair, -1, -1, -1, 0), []int{0, 1}, []int{1}},
		{"all roots lead to the same cell", heapWith(pair, 0, 0, 0, 0), []int{0, 1}, []int{1}},
		{"two roots lead to the same cell, with one between", heapWith([]impl.Cell{leaf, leaf}, 1, 0, 1), []int{1, 0}, []int{1}},
		{"a root leads to what another one has reached", heapWith(pair, 0, 1), []int{0, 1}, []int{1}},
		{"a root reaches what another one leads to", heapWith(pair, 1, 0), []int{1, 0}, []int{1}},
		{"roots that are -1 between others", heapWith([]impl.Cell{usedCell(1, 2), usedCell(2, 3), leaf, leaf}, -1, 1, -1, 0), []int{1, 3, 0, 2}, []int{1}},
		{"four roots with a row each", heapWith([]impl.Cell{usedCell(1, 4), usedCell(2, 5), usedCell(3, 6), usedCell(4, 7), leaf, leaf, leaf, leaf}, 3, 1, 0, 2), []int{3, 7, 1, 5, 0, 4, 2, 6}, []int{1}},
		{"what a root leads to is worked off before the next root", heapWith([]impl.Cell{usedCell(1, 2, 1), usedCell(2, 3), leaf, leaf}, 0, 1), []int{0, 2, 1, 3}, []int{2, 1}},
		{"two roots lead to one cycle", heapWith([]impl.Cell{usedCell(1, 1), usedCell(2, 2), usedCell(3, 0)}, 2, 1), []int{2, 0, 1}, []int{1}},
	}
}

// marksBesideOthers are heaps with cells that are not used, and with lost ones.
func marksBesideOthers() []markCase {
	leaf, none := usedCell(0), impl.Cell{}
	return []markCase{
		{"no cells", heapWith(nil), nil, []int{1}},
		{"only cells that are not used", heapWith([]impl.Cell{none, none, none}), nil, []int{1}},
		{"one cell", heapWith([]impl.Cell{leaf}, 0), []int{0}, []int{1}},
		{"one lost cell", heapWith([]impl.Cell{usedCell(1, 0)}), nil, []int{1}},
		{"everything is lost", heapWith([]impl.Cell{usedCell(1, 1, 2), usedCell(2, 0), usedCell(3, 3), leaf}), nil, []int{1}},
		{"a lost cell leads to one that can be reached", heapWith([]impl.Cell{usedCell(1, 1, 2), leaf, leaf}, 2), []int{2}, []int{1}},
		{"lost cells lead to each other", heapWith([]impl.Cell{usedCell(1, 1), usedCell(2, 0), leaf}, 2), []int{2}, []int{1}},
		{"a lost row beside a second pass", heapWith([]impl.Cell{usedCell(1, 1, 2), leaf, usedCell(3, 3), leaf, usedCell(5, 5), leaf}, 0), []int{0, 1, 2, 3}, []int{2, 1}},
		{"lost cells lead to one that is only marked", heapWith([]impl.Cell{usedCell(1, 3, 2), usedCell(2, 2, 4), leaf, leaf, leaf, usedCell(6, 2, 5)}, 0), []int{0, 3, 2}, []int{1}},
		{"cells that are not used between others", heapWith([]impl.Cell{none, usedCell(2, 3, 5), none, leaf, none, usedCell(6, 7), none, leaf, none}, 1), []int{1, 3, 5, 7}, []int{2, 1}},
		{"the first and the last of MaxCells cells", heapWith(slices.Concat([]impl.Cell{usedCell(1, 39)}, make([]impl.Cell, 38), []impl.Cell{usedCell(2, 0)}), 39), []int{39, 0}, []int{1}},
	}
}

// marksInOtherOrders are heaps whose cells a walk meets in another order if it goes as deep as possible.
func marksInOtherOrders() []markCase {
	leaf := usedCell(0)
	return []markCase{
		{"two ways to a cell", heapWith([]impl.Cell{usedCell(1, 1, 2), usedCell(2, 3), usedCell(3, 3), leaf}, 0), []int{0, 1, 3, 2}, []int{1}},
		{"a long way to a cell before a short one", heapWith([]impl.Cell{usedCell(1, 1, 3), usedCell(2, 2), usedCell(3, 3), leaf}, 0), []int{0, 1, 2, 3}, []int{1}},
		{"a long way around a cycle before a short one", heapWith([]impl.Cell{usedCell(1, 1, 3), usedCell(2, 2), usedCell(3, 3), usedCell(4, 0, 4), leaf}, 0), []int{0, 1, 2, 3, 4}, []int{2, 1}},
		{"cycles that share a cell", heapWith([]impl.Cell{usedCell(1, 1, 2), usedCell(2, 3), usedCell(3, 0), usedCell(4, 0)}, 0), []int{0, 1, 3, 2}, []int{1}},
		{"a cycle whose cells share a reference", heapWith([]impl.Cell{usedCell(1, 1, 3), usedCell(2, 2, 3), usedCell(3, 3, 0), usedCell(4, 4), leaf}, 0), []int{0, 1, 2, 3, 4}, []int{2, 1}},
		{"a root in the middle of what an earlier one leads to", heapWith([]impl.Cell{usedCell(1, 2), leaf, usedCell(3, 1)}, 0, 1), []int{0, 2, 1}, []int{1}},
	}
}

// allMarks returns the written cases.
func allMarks() []markCase {
	return slices.Concat(marksInRows(), marksOfTwoAndThree(), marksOnly(), marksInOrder(), marksFromRoots(), marksBesideOthers(), marksInOtherOrders())
}

// P3, P62: the results of single heaps, written out.
func TestOneMarking(t *testing.T) {
	for _, c := range allMarks() {
		if got := impl.MarkDepth(c.heap); !slices.Equal(got, c.depth) {
			t.Errorf("%s: MarkDepth(%v) = %v, not %v", c.name, c.heap, got, c.depth)
		}
		marks := flagsWith(len(c.heap.Cells), c.depth...)
		for places := 1; places <= impl.MaxCells; places++ {
			want := c.passes[min(places, len(c.passes))-1]
			if got, passes := impl.MarkBounded(c.heap, places); !slices.Equal(got, marks) || passes != want {
				t.Errorf("%s: MarkBounded(%v, %d) = %v, %d, not %v, %d", c.name, c.heap, places, got, passes, marks, want)
			}
		}
	}
}

// P3, P62: in whatever order the cells of the written cases stand, the walk is the same one, and the same cells are marked; the passes are those of the definition.
func TestMarkingInEveryOrder(t *testing.T) {
	seen := map[int]int{}
	for _, c := range allMarks() {
		cells := len(c.heap.Cells)
		if cells > 6 {
			continue
		}
		eachOrder(cells, func(at []int) {
			h := placed(c.heap, cells, at)
			var want []int
			for _, number := range c.depth {
				want = append(want, at[number])
			}
			if got := impl.MarkDepth(h); !slices.Equal(got, want) {
				t.Fatalf("%s: MarkDepth(%v) = %v, not %v", c.name, h, got, want)
			}
			for places := 1; places <= cells; places++ {
				if got, _ := impl.MarkBounded(h, places); !slices.Equal(got, flagsWith(cells, want...)) {
					t.Fatalf("%s: MarkBounded(%v, %d) = %v, not those of %v", c.name, h, places, got, want)
				}
			}
			seen[checkMarking(t, h)]++
		})
	}
	for passes := 1; passes <= 3; passes++ {
		if seen[passes] == 0 {
			t.Errorf("no heap needs %d passes: %v", passes, seen)
		}
	}
}

// checkSmallStack fails unless the marks are those of Reachable with every number of places, with one pass if there are as many as cells; it tells whether some number of places takes more.
func checkSmallStack(t *testing.T, h impl.Heap) bool {
	t.Helper()
	want, more := impl.Reachable(h), false
	_, live := usedCellsOf(h)
	if !slices.Equal(want, reachableOf(h)) {
		t.Fatalf("Reachable(%v) = %v", h, want)
	}
	for _, places := range placesFor(h) {
		got, passes := impl.MarkBounded(h, places)
		if !slices.Equal(got, want) {
			t.Fatalf("MarkBounded(%v, %d) = %v, not %v", h, places, got, want)
		}
		// Every pass marks some cell; and no cell needs a place of its own but those that can be reached.
		if passes < 1 || passes > max(1, live) || places >= min(live, len(h.Cells)) && passes != 1 {
			t.Fatalf("MarkBounded(%v, %d) has taken %d passes", h, places, passes)
		}
		more = more || passes > 1
	}
	return more
}

// P3: the marks are those of Reachable, whatever the number of places is; with as many places as cells one pass is enough.
func TestSmallStacksMarkTheSame(t *testing.T) {
	once, often := 0, 0
	eachMarked(func(h impl.Heap) {
		if checkSmallStack(t, h) {
			often++
		} else {
			once++
		}
	})
	if once == 0 || often == 0 {
		t.Errorf("%d heaps are marked in one pass always, and %d are not", once, often)
	}
}

// combOf returns a heap with a row of cells, to the first of which a root leads: each but the last one refers to the next one, with a number of cells without references before it and after it. In a heap that descends a cell of the row has a higher number than all behind it.
func combOf(row, before, after int, descends bool) impl.Heap {
	wide := 1 + before + after
	cells := make([]impl.Cell, row*wide)
	for k := range row {
		first := k * wide
		next := first + wide
		if k == row-1 {
			next = -1
		}
		refs := slices.Concat(rangeOf(first+1, first+before), []int{next}, rangeOf(first+before+1, first+before+after))
		cells[first] = usedCell(k, refs...)
		for number := first + 1; number < first+wide; number++ {
			cells[number] = usedCell(99)
		}
	}
	h := heapWith(cells, 0)
	if descends {
		down := rangeOf(0, len(cells)-1)
		slices.Reverse(down)
		return placed(h, len(cells), down)
	}
	return h
}

// checkComb fails unless a comb is marked in as many passes as can be told without marking, with every number of places.
func checkComb(t *testing.T, row, before, after int) {
	t.Helper()
	for places := 1; places <= impl.MaxCells; places++ {
		// The cells before the next one of the row stay on the stack: so many of the row are worked off in one go.
		atOnce := row
		if before > 0 {
			atOnce = 1 + (places-1)/before
		}
		for _, descends := range []bool{false, true} {
			h := combOf(row, before, after, descends)
			want := min(2, (row+atOnce-1)/atOnce)
			if descends {
				want = (row + atOnce - 1) / atOnce
			}
			got, passes := impl.MarkBounded(h, places)
			if slices.Contains(got, false) || len(got) != len(h.Cells) || passes != want {
				t.Fatalf("MarkBounded(%v, %d) = %v, %d, not all in %d", h, places, got, passes, want)
			}
			checkBounded(t, h, places)
		}
	}
}

// P3: the passes of combs of every length, with every number of places: so many that one pass is just enough, and one fewer, are among them.
func TestPassesOfCombs(t *testing.T) {
	for before := range impl.MaxRefs {
		for after := range impl.MaxRefs - before {
			if before+after == 0 {
				continue
			}
			for row := 1; row*(1+before+after) <= impl.MaxCells; row++ {
				checkComb(t, row, before, after)
			}
		}
	}
}

// P3: for the widest combs it is known how many places are just enough.
func TestPlacesThatAreJustEnough(t *testing.T) {
	for _, c := range []struct{ row, before, after, places int }{{20, 1, 0, 20}, {13, 2, 0, 25}, {13, 1, 1, 13}, {13, 0, 2, 1}, {20, 0, 1, 1}} {
		h := combOf(c.row, c.before, c.after, true)
		for places := 1; places <= impl.MaxCells; places++ {
			if _, passes := impl.MarkBounded(h, places); (passes == 1) != (places >= c.places) {
				t.Errorf("MarkBounded(%v, %d) has taken %d passes", h, places, passes)
			}
		}
	}
	if _, passes := impl.MarkBounded(combOf(20, 1, 0, true), 1); passes != 20 {
		t.Errorf("a comb of 20 cells that descends is marked in %d passes", passes)
	}
}

// threefoldTree returns a tree of MaxCells cells, in which cell k refers to the cells 3k+1, 3k+2 and 3k+3, and the order of a walk through it that goes as deep as possible.
func threefoldTree() (impl.Heap, []int) {
	cells := make([]impl.Cell, impl.MaxCells)
	for k := range cells {
		cells[k] = usedCell(k)
		if 3*k+3 < impl.MaxCells {
			cells[k] = usedCell(k, 3*k+1, 3*k+2, 3*k+3)
		}
	}
	order := []int{0}
	for _, k := range []int{1, 2, 3} {
		order = append(order, k)
		for _, n := range rangeOf(3*k+1, 3*k+3) {
			order = append(order, n, 3*n+1, 3*n+2, 3*n+3)
		}
	}
	return heapWith(cells, 0), order
}

// P3, P62: the passes and the walk of a tree of MaxCells cells that ascends, and of one that descends.
func TestMarkingOfATree(t *testing.T) {
	h, order := threefoldTree()
	down := rangeOf(0, impl.MaxCells-1)
	slices.Reverse(down)
	for _, c := range []struct{ at, passes []int }{{rangeOf(0, impl.MaxCells-1), []int{2, 2, 2, 2, 1}}, {down, []int{3, 3, 2, 2, 1}}} {
		tree := placed(h, impl.MaxCells, c.at)
		var want []int
		for _, number := range order {
			want = append(want, c.at[number])
		}
		if got := impl.MarkDepth(tree); !slices.Equal(got, want) {
			t.Errorf("MarkDepth(%v) = %v, not %v", tree, got, want)
		}
		for places := 1; places <= impl.MaxCells; places++ {
			wantPasses := c.passes[min(places, len(c.passes))-1]
			if got, passes := impl.MarkBounded(tree, places); slices.Contains(got, false) || len(got) != impl.MaxCells || passes != wantPasses {
				t.Errorf("MarkBounded(%v, %d) = %v, %d, not all in %d", tree, places, got, passes, wantPasses)
			}
		}
	}
}

// P62: every cell that can be reached is met once, and no other one.
func TestDeepWalksMeetWhatCanBeReached(t *testing.T) {
	eachMarked(func(h impl.Heap) {
		met, times := impl.MarkDepth(h), make([]int, len(h.Cells))
		for _, number := range met {
			if number < 0 || number >= len(h.Cells) {
				t.Fatalf("MarkDepth(%v) = %v", h, met)
			}
			times[number]++
		}
		for number, reached := range reachableOf(h) {
			want := 0
			if reached {
				want = 1
			}
			if times[number] != want {
				t.Fatalf("MarkDepth(%v) = %v, with cell %d not %d times", h, met, number, want)
			}
		}
	})
}

// nextDeep returns the cell that a walk meets behind others, -1 if there is none: it goes on from the last one of them that refers to a cell that was not met, and from the roots if there is none of them.
func nextDeep(h impl.Heap, met []int) int {
	isNew := func(number int) bool { return number != -1 && !slices.Contains(met, number) }
	lists := [][]int{h.Roots}
	for _, number := range met {
		lists = append(lists, h.Cells[number].Refs)
	}
	for k := len(lists) - 1; k >= 0; k-- {
		if at := slices.IndexFunc(lists[k], isNew); at != -1 {
			return lists[k][at]
		}
	}
	return -1
}

// P62: a walk goes as deep as possible: what is met next is the first reference that leads on of the cell that was met last among those that have one.
func TestWalksGoDeep(t *testing.T) {
	eachMarked(func(h impl.Heap) {
		met := impl.MarkDepth(h)
		for k := 0; k <= len(met); k++ {
			want := nextDeep(h, met[:k])
			if k == len(met) && want != -1 || k < len(met) && met[k] != want {
				t.Fatalf("MarkDepth(%v) = %v, but cell %d is met behind %v", h, met, want, met[:k])
			}
		}
	})
}

// P123: MarkDepth and MetOrder have the same cells, and the same first one, in the same order or in another one.
func TestWalksMeetTheSameCells(t *testing.T) {
	same, others := 0, 0
	eachMarked(func(h impl.Heap) {
		deep, wide := impl.MarkDepth(h), impl.MetOrder(h)
		if len(deep) > 0 && (len(wide) == 0 || deep[0] != wide[0]) {
			t.Fatalf("MarkDepth(%v) = %v, and MetOrder = %v", h, deep, wide)
		}
		if !slices.Equal(slices.Sorted(slices.Values(deep)), slices.Sorted(slices.Values(wide))) {
			t.Fatalf("MarkDepth(%v) = %v, and MetOrder = %v", h, deep, wide)
		}
		if slices.Equal(deep, wide) {
			same++
		} else {
			others++
		}
	})
	if same == 0 || others == 0 {
		t.Errorf("%d walks have the same order, and %d another one", same, others)
	}
}

// P123: the first cell of both walks is that of the first root that leads to one; the cells of the other roots are first in MetOrder alone.
func TestFirstCellsOfWalks(t *testing.T) {
	for first := range impl.MaxRoots {
		for number := range impl.MaxCells {
			// Every cell refers to the one before it, and the first one to the last one.
			cells := chainOf(impl.MaxCells)
			cells[0] = usedCell(0, impl.MaxCells-1)
			h := heapWith(cells)
			for k := first; k < impl.MaxRoots; k++ {
				h.Roots[k] = (number + 7*(k-first)) % impl.MaxCells
			}
			deep, wide := impl.MarkDepth(h), impl.MetOrder(h)
			before := (number + impl.MaxCells - 1) % impl.MaxCells
			if len(deep) != impl.MaxCells || deep[0] != number || deep[1] != before || wide[0] != number {
				t.Fatalf("MarkDepth(%v) = %v, and MetOrder = %v", h, deep, wide)
			}
			if first < impl.MaxRoots-1 && wide[1] == deep[1] {
				t.Fatalf("MetOrder(%v) = %v, like MarkDepth", h, wide)
			}
			checkMarking(t, h)
		}
	}
}

// P3, P62: every one of MaxCells cells can be met from every one, and only marked by every one.
func TestEveryCellIsMetFromEveryCell(t *testing.T) {
	last := impl.MaxCells - 1
	for from := range impl.MaxCells {
		for to := range impl.MaxCells {
			cells := slices.Repeat([]impl.Cell{usedCell(0)}, impl.MaxCells)
			cells[from] = usedCell(0, -1, to)
			checkMarking(t, heapWith(cells, -1, from))
			// The cell is met behind another one, so that with one place it is only marked, and refers on to a third one.
			other := (from + 1) % impl.MaxCells
			cells[from] = usedCell(0, other, to)
			cells[to].Refs = append(cells[to].Refs, last-to)
			if passes := checkBounded(t, heapWith(cells, from), 1); from != to && passes > 2 {
				t.Fatalf("%v is marked in %d passes", heapWith(cells, from), passes)
			}
		}
	}
}

// P3, P62: in heaps in which everything is lost nothing is marked, and in such in which nothing is lost everything; one pass is the least.
func TestAllAndNothingIsMarked(t *testing.T) {
	for cells := range impl.MaxCells + 1 {
		for _, places := range []int{1, 2, max(1, cells-1), max(1, cells), impl.MaxCells} {
			for _, list := range [][]impl.Cell{make([]impl.Cell, cells), slices.Repeat([]impl.Cell{usedCell(0)}, cells), chainOf(cells)} {
				lost := heapWith(list)
				marks, passes := impl.MarkBounded(lost, places)
				if len(impl.MarkDepth(lost)) != 0 || len(marks) != cells || slices.Contains(marks, true) || passes != 1 {
					t.Fatalf("MarkBounded(%v, %d) = %v, %d", lost, places, marks, passes)
				}
			}
			if cells == 0 {
				continue
			}
			live := heapWith(chainOf(cells), cells-1)
			marks, passes := impl.MarkBounded(live, places)
			if len(impl.MarkDepth(live)) != cells || len(marks) != cells || slices.Contains(marks, false) || passes != 1 {
				t.Fatalf("MarkBounded(%v, %d) = %v, %d", live, places, marks, passes)
			}
		}
	}
}

// P3, P62: what the cells have as Data, and where they stand, does not matter for the walk.
func TestDataIsNotLookedAt(t *testing.T) {
	for _, h := range validHeapsOfAllSizes() {
		other := copyOf(h)
		for number := range other.Cells {
			if other.Cells[number].Used {
				other.Cells[number].Data = impl.MaxData - other.Cells[number].Data
			}
		}
		if !slices.Equal(impl.MarkDepth(other), impl.MarkDepth(h)) {
			t.Fatalf("MarkDepth(%v) = %v, not %v", other, impl.MarkDepth(other), impl.MarkDepth(h))
		}
		for _, places := range placesFor(h) {
			marks, passes := impl.MarkBounded(h, places)
			if got, many := impl.MarkBounded(other, places); !slices.Equal(got, marks) || many != passes {
				t.Fatalf("MarkBounded(%v, %d) = %v, %d, not %v, %d", other, places, got, many, marks, passes)
			}
		}
	}
}

// P3, P62: a heap that is invalid in any way has no marks, however many places there are.
func TestMarkingOfInvalidHeaps(t *testing.T) {
	for _, h := range invalidHeaps() {
		checkNoMarking(t, h)
		for _, places := range oddStacks {
			checkNoMarks(t, h, places)
		}
	}
}

// P3, P62: with a root or a reference to anything that is no used cell, wherever it stands, and even in a cell that is lost, there are no marks.
func TestMarkingOfOtherTargets(t *testing.T) {
	for _, h := range wideHeaps() {
		targets := append([]int{len(h.Cells)}, oddTargets...)
		if unused := slices.Index(usedFlags(h), false); unused != -1 {
			targets = append(targets, unused)
		}
		other := copyOf(h)
		eachPlace(other, func(place *int) {
			before := *place
			for _, target := range targets {
				*place = target
				if got := impl.MarkDepth(other); len(got) != 0 {
					t.Fatalf("MarkDepth(%v) = %v", other, got)
				}
				checkNoMarks(t, other, 1)
				checkNoMarks(t, other, impl.MaxCells)
			}
			*place = before
		})
	}
}

// P3: with fewer than one place, or with more than MaxCells, there are no marks, even if the heap has fewer cells, or none.
func TestOtherNumbersOfPlaces(t *testing.T) {
	for _, h := range slices.Concat(validHeapsOfAllSizes(), oneUnused()) {
		for _, places := range oddStacks {
			checkNoMarks(t, h, places)
		}
		for _, places := range []int{1, 2, 39, 40} {
			if marks, passes := impl.MarkBounded(h, places); len(marks) != len(h.Cells) || passes < 1 {
				t.Fatalf("MarkBounded(%v, %d) = %v, %d", h, places, marks, passes)
			}
		}
	}
}

// checkPlaces compares MarkBounded with its definition for a valid heap and any number of places.
func checkPlaces(t *testing.T, h impl.Heap, places int) {
	t.Helper()
	if places >= 1 && places <= 40 {
		checkBounded(t, h, places)
	} else {
		checkNoMarks(t, h, places)
	}
}

// TestMarkingReturnsForAllNumbers: for every number of a root, a reference, Data or places, and for every length, the functions return what the chapter gives.
func TestMarkingReturnsForAllNumbers(t *testing.T) {
	numbers := manyNumbers()
	few := heapWith([]impl.Cell{usedCell(0, 0), {}, usedCell(99, -1, 2, 0)}, 0, -1, 2)
	for _, h := range []impl.Heap{heapWith(nil), few, trialHeap(), combOf(20, 1, 0, true), mixedHeap(impl.MaxCells, 1)} {
		for _, number := range numbers {
			checkPlaces(t, h, number)
		}
	}
	for _, h := range []impl.Heap{copyOf(few), trialHeap()} {
		change := func(place *int) {
			before := *place
			for _, number := range numbers {
				*place = number
				checkMarkingOf(t, h)
			}
			*place = before
		}
		eachPlace(h, change)
		for number := range h.Cells {
			change(&h.Cells[number].Data)
		}
	}
	for many := range 140 {
		checkMarkingOf(t, heapWith(make([]impl.Cell, many)))
		checkMarkingOf(t, heapWith(slices.Repeat([]impl.Cell{usedCell(1, 0)}, many), min(many, 1)-1))
		checkMarkingOf(t, heapWith(chainOf(many), many-1))
		checkMarkingOf(t, heapWith([]impl.Cell{usedCell(0, manyOf(0, many)...)}, 0))
		checkMarkingOf(t, impl.Heap{Cells: []impl.Cell{usedCell(0)}, Roots: manyOf(0, many)})
		checkMarkingOf(t, impl.Heap{Cells: []impl.Cell{usedCell(0)}, Roots: manyOf(-1, many)})
	}
	checkNoMarking(t, heapWith(slices.Repeat([]impl.Cell{usedCell(1, 0)}, 100000), 0))
}

// TestMarkingOfExtremeNumbers: for heaps whose numbers are all very large or very small, and for such numbers of places, the functions return what the chapter gives.
func TestMarkingOfExtremeNumbers(t *testing.T) {
	extremes := []int{math.MinInt, math.MinInt + 1, -1 << 32, -2, -1, 0, 1, 1 << 32, math.MaxInt - 1, math.MaxInt}
	for _, x := range extremes {
		for _, y := range extremes {
			for _, z := range extremes {
				for _, used := range []bool{false, true} {
					c := impl.Cell{Used: used, Data: x, Refs: []int{y}}
					checkMarkingOf(t, heapWith([]impl.Cell{c}, z))
					checkMarkingOf(t, heapWith([]impl.Cell{c, usedCell(0, 0)}, -1, z))
					checkMarkingOf(t, heapWith([]impl.Cell{usedCell(0), c}, z))
				}
				checkNoMarks(t, impl.Heap{Roots: []int{x, y, z}}, z)
				checkPlaces(t, heapWith(nil), x)
			}
		}
	}
}

// P3, P62: nil and empty slices are the same.
func TestNilAndEmptySlicesOfMarking(t *testing.T) {
	for _, cells := range [][]impl.Cell{nil, {}} {
		checkMarking(t, heapWith(cells))
	}
	for _, refs := range [][]int{nil, {}} {
		checkMarking(t, heapWith([]impl.Cell{{Refs: refs}, {Used: true, Refs: refs}, usedCell(1, 1)}, 1, 2))
	}
}

// TestMarkingOfHeapsThatShareMemory: the slices of a heap may be the same ones.
func TestMarkingOfHeapsThatShareMemory(t *testing.T) {
	refs := []int{1, -1, 0, 2}
	cells := []impl.Cell{usedCell(1, refs[:3]...), usedCell(2, refs[1:]...), usedCell(3, refs[:2]...)}
	h := impl.Heap{Cells: cells, Roots: refs}
	checkMarking(t, h)
	if got := impl.MarkDepth(h); !slices.Equal(got, []int{1, 0, 2}) || !slices.Equal(refs, []int{1, -1, 0, 2}) {
		t.Fatalf("MarkDepth = %v, with references %v", got, refs)
	}
}

// checkMarksShareNothing fails if the functions of the chapter change a heap or the spare capacity of its slices, or if overwriting their results, with their spare capacity, changes the heap or another result.
func checkMarksShareNothing(t *testing.T, h impl.Heap, places int) {
	t.Helper()
	s := spareOf(h)
	before := s.state()
	met, otherMet := impl.MarkDepth(s.heap), impl.MarkDepth(s.heap)
	marks, passes := impl.MarkBounded(s.heap, places)
	otherMarks, _ := impl.MarkBounded(s.heap, places)
	wantMet, wantMarks := slices.Clone(met), slices.Clone(marks)
	if !slices.Equal(s.state(), before) {
		t.Fatalf("the heap %v became %v", h, s.heap)
	}
	fillNumbers(met[:cap(met)])
	overwrite(marks[:cap(marks)])
	if !slices.Equal(s.state(), before) {
		t.Fatalf("the heap %v shares memory with a result", h)
	}
	if !slices.Equal(otherMet, wantMet) || !slices.Equal(otherMarks, wantMarks) {
		t.Fatalf("results of %v share memory", h)
	}
	again, many := impl.MarkBounded(s.heap, places)
	if !slices.Equal(impl.MarkDepth(s.heap), wantMet) || !slices.Equal(again, wantMarks) || many != passes {
		t.Fatalf("the results of %v are others when they are overwritten", h)
	}
}

// TestMarksShareNothing: no heap changes, valid or not, not even when all results are overwritten, and neither does another result.
func TestMarksShareNothing(t *testing.T) {
	check := func(h impl.Heap) {
		for _, places := range []int{-1, 0, 1, 2, 3, impl.MaxCells, impl.MaxCells + 1} {
			checkMarksShareNothing(t, h, places)
		}
	}
	eachHeapOf(2, 2, 1, check)
	eachHeapOf(3, 1, 1, check)
	for _, h := range slices.Concat(validHeapsOfAllSizes(), oneUnused(), invalidHeaps()) {
		check(h)
	}
	for _, c := range allMarks() {
		check(c.heap)
	}
	for row := 1; row <= 20; row++ {
		check(combOf(row, 1, 0, true))
	}
}
