package tests

import (
	"math"
	"slices"
	"testing"

	"loop.example/memorymanagers/impl"
)

// copiedOf is what CopyHeap must return, from its definition.
func copiedOf(h impl.Heap) impl.Heap {
	if !validHeap(h) {
		return impl.Heap{}
	}
	met := metOrderOf(h)
	numbersOf := func(targets []int) []int {
		var numbers []int
		for _, target := range targets {
			// What is -1 is no cell that was met: so its number is -1.
			numbers = append(numbers, slices.Index(met, target))
		}
		return numbers
	}
	next := impl.Heap{Roots: numbersOf(h.Roots)}
	for _, number := range met {
		c := h.Cells[number]
		next.Cells = append(next.Cells, usedCell(c.Data, numbersOf(c.Refs)...))
	}
	return next
}

// forwardOf is what CopyForward must return, from its definition.
func forwardOf(h impl.Heap) []int {
	if !validHeap(h) {
		return nil
	}
	met := metOrderOf(h)
	var forward []int
	for number := range h.Cells {
		forward = append(forward, slices.Index(met, number))
	}
	return forward
}

// copyStepsOf is what CopySteps must return, from its definition.
func copyStepsOf(h impl.Heap) (int, int) {
	if !validHeap(h) {
		return -1, -1
	}
	cells, looked := 0, len(h.Roots)
	for number, reached := range reachableOf(h) {
		if reached {
			cells++
			looked += len(h.Cells[number].Refs)
		}
	}
	return cells, looked
}

// copyRunOf is what RunCopy must return, from its definition.
func copyRunOf(list []impl.Command, limit int) (impl.Heap, bool) {
	if !validProgram(list) || !validLimit(limit) {
		return impl.Heap{}, false
	}
	h := heapWith(nil)
	for _, o := range list {
		if o.Op == 1 && len(h.Cells) == limit {
			h = copiedOf(h)
			if len(h.Cells) == limit {
				return h, false
			}
		}
		h, _ = stepOf(h, o)
	}
	return h, true
}

// checkCopyIs fails unless the functions of the chapter that take a heap return these results.
func checkCopyIs(t *testing.T, h, want impl.Heap, forward []int, cells, looked int) {
	t.Helper()
	if got := impl.CopyHeap(h); !sameHeap(got, want) {
		t.Fatalf("CopyHeap(%v) = %v, not %v", h, got, want)
	}
	if got := impl.CopyForward(h); !slices.Equal(got, forward) {
		t.Fatalf("CopyForward(%v) = %v, not %v", h, got, forward)
	}
	if many, refs := impl.CopySteps(h); many != cells || refs != looked {
		t.Fatalf("CopySteps(%v) = %d, %d, not %d, %d", h, many, refs, cells, looked)
	}
}

// checkCopy compares the functions of the chapter that take a heap with their definitions, for valid heaps and for others.
func checkCopy(t *testing.T, h impl.Heap) {
	t.Helper()
	cells, looked := copyStepsOf(h)
	checkCopyIs(t, h, copiedOf(h), forwardOf(h), cells, looked)
}

// checkNoCopy fails unless the functions of the chapter that take a heap return what it gives for invalid ones.
func checkNoCopy(t *testing.T, h impl.Heap) {
	t.Helper()
	checkCopyIs(t, h, impl.Heap{}, nil, -1, -1)
}

// checkCopyRun compares RunCopy with its definition, for valid arguments and for others, and tells whether the program came to its end.
func checkCopyRun(t *testing.T, list []impl.Command, limit int) bool {
	t.Helper()
	want, ok := copyRunOf(list, limit)
	if got, done := impl.RunCopy(list, limit); done != ok || !sameHeap(got, want) {
		t.Fatalf("RunCopy(%v, %d) = %v, %v, not %v, %v", list, limit, got, done, want, ok)
	}
	return ok
}

// checkNoCopyRun fails unless RunCopy returns the zero value and false.
func checkNoCopyRun(t *testing.T, list []impl.Command, limit int) {
	t.Helper()
	if got, ok := impl.RunCopy(list, limit); ok || len(got.Cells) != 0 || len(got.Roots) != 0 {
		t.Fatalf("RunCopy(%v, %d) = %v, %v", list, limit, got, ok)
	}
}

// eachCopied calls check with the heaps of eachSwept, and with some in which nothing is lost, and whose cells are not met in the order of their numbers.
func eachCopied(check func(h impl.Heap)) {
	eachSwept(check)
	for cells := 1; cells <= impl.MaxCells; cells++ {
		for turn := range 20 {
			check(grownHeap(cells, turn))
		}
	}
}

// TestCopyingIsTheDefinition: for all heaps of some kinds, and for others, copying is what the chapter defines.
func TestCopyingIsTheDefinition(t *testing.T) {
	eachCopied(func(h impl.Heap) { checkCopy(t, h) })
	for _, list := range longPrograms() {
		checkCopy(t, impl.RunHeap(list))
	}
}

// turnedChain returns the cells of chainOf from the last one on.
func turnedChain(cells int) []impl.Cell {
	chain := make([]impl.Cell, cells)
	for number := range chain {
		chain[number] = usedCell(cells-1-number, number+1)
	}
	if cells > 0 {
		chain[cells-1].Refs[0] = -1
	}
	return chain
}

// ringOf returns a cycle of cells, whose Data ascend from one on.
func ringOf(cells, from int) []impl.Cell {
	ring := make([]impl.Cell, cells)
	for number := range ring {
		ring[number] = usedCell((from+number)%cells, (number+1)%cells)
	}
	return ring
}

// downFrom returns all numbers from one down to 0.
func downFrom(number int) []int {
	down := rangeOf(0, number)
	slices.Reverse(down)
	return down
}

// copyCase is a heap, what CopyHeap and CopyForward return for it, and how many references CopySteps tells; it tells as many cells as the copy has.
type copyCase struct {
	name    string
	heap    impl.Heap
	want    impl.Heap
	forward []int
	looked  int
}

// copiesOfNothing are heaps in which everything is lost: only the roots are looked at.
func copiesOfNothing() []copyCase {
	none := impl.Cell{}
	var all []copyCase
	add := func(name string, cells ...impl.Cell) {
		all = append(all, copyCase{name, heapWith(cells), heapWith(nil), manyOf(-1, len(cells)), 4})
	}
	add("no cells")
	add("one cell that is not used", none)
	add("only cells that are not used", none, none, none)
	add("one lost cell with Data 0 and without references", usedCell(0))
	add("one lost cell with MaxData and MaxRefs references that are -1", usedCell(99, -1, -1, -1))
	add("one lost cell that refers to itself", usedCell(5, 0, 0, 0))
	add("two lost cells that refer to each other", usedCell(1, 1), usedCell(2, 0))
	add("two lost cells that refer to themselves", usedCell(1, 0), usedCell(2, 1))
	add("a lost row", usedCell(1, 1), usedCell(2, 2), usedCell(3))
	add("a lost cycle", usedCell(1, 1), usedCell(2, 2), usedCell(3, 0))
	add("a lost row that leads to a lost cycle", usedCell(1, 1), usedCell(2, 2), usedCell(3, 3), usedCell(4, 2))
	add("a lost cell between cells that are not used", none, usedCell(1, 1), none)
	add("lost cells around one that is not used", usedCell(1, 2), none, usedCell(3, 0, 2))
	add("MaxCells cells that are not used", make([]impl.Cell, impl.MaxCells)...)
	add("a lost row of MaxCells cells", chainOf(impl.MaxCells)...)
	add("a lost cycle of MaxCells cells", ringOf(impl.MaxCells, 0)...)
	add("MaxCells lost cells without references", slices.Repeat([]impl.Cell{usedCell(7)}, impl.MaxCells)...)
	return all
}

// copiesInOrder are heaps in which nothing is lost, and the cells are met in the order of their numbers: the copy is equal to the heap.
func copiesInOrder() []copyCase {
	tree, _ := threefoldTree()
	row := []impl.Cell{usedCell(1, 1), usedCell(2, 2), usedCell(3)}
	var all []copyCase
	add := func(name string, h impl.Heap, looked int) {
		all = append(all, copyCase{name, h, h, rangeOf(0, len(h.Cells)-1), looked})
	}
	add("one cell with Data 0 and without references", heapWith([]impl.Cell{usedCell(0)}, 0), 4)
	add("one cell with MaxData, to which the last root alone leads", heapWith([]impl.Cell{usedCell(99)}, -1, -1, -1, 0), 4)
	add("one cell that refers to itself, and to which all roots lead", heapWith([]impl.Cell{usedCell(5, 0, 0, 0)}, 0, 0, 0, 0), 7)
	add("one cell with MaxRefs references that are -1", heapWith([]impl.Cell{usedCell(5, -1, -1, -1)}, 0), 7)
	add("a row that ascends", heapWith(row, 0), 6)
	add("a cycle", heapWith([]impl.Cell{usedCell(1, 1), usedCell(2, 2), usedCell(3, 0)}, 0, -1, 0), 7)
	add("four roots lead to four cells", heapWith([]impl.Cell{usedCell(1), usedCell(2), usedCell(3), usedCell(4)}, 0, 1, 2, 3), 4)
	add("roots that are -1 between others", heapWith([]impl.Cell{usedCell(1), usedCell(2)}, -1, 0, -1, 1), 4)
	add("a tree by its levels", heapWith([]impl.Cell{usedCell(1, 1, 2), usedCell(2, 3, 4), usedCell(3, 5, 6), usedCell(4), usedCell(5), usedCell(6), usedCell(7)}, 0), 10)
	add("references back and to the cell itself", heapWith([]impl.Cell{usedCell(1, 1, 0), usedCell(2, 0, 2, 1), usedCell(3, -1, 0)}, 0), 11)
	add("two references to the same cell", heapWith([]impl.Cell{usedCell(1, 1, 1), usedCell(2, 2, -1, 2), usedCell(3)}, 0), 9)
	add("roots before references", heapWith([]impl.Cell{usedCell(1, 2), usedCell(2), usedCell(3)}, 0, 1), 5)
	add("cells with the same contents", heapWith([]impl.Cell{usedCell(4, -1), usedCell(4, -1)}, 0, 1), 6)
	add("a cycle of MaxCells cells", heapWith(ringOf(impl.MaxCells, 0), 0), 44)
	add("a tree of MaxCells cells", tree, 43)
	return all
}

// copiesInOtherOrders are heaps in which nothing is lost, and the cells are met in another order than that of their numbers.
func copiesInOtherOrders() []copyCase {
	last := impl.MaxCells - 1
	tree, _ := threefoldTree()
	down := downFrom(last)
	return []copyCase{
		{"a root leads to the late cell first", heapWith([]impl.Cell{usedCell(1), usedCell(2)}, 1, 0), heapWith([]impl.Cell{usedCell(2), usedCell(1)}, 0, 1), []int{1, 0}, 4},
		{"four roots lead to four cells", heapWith([]impl.Cell{usedCell(1), usedCell(2), usedCell(3), usedCell(4)}, 3, 1, 0, 2), heapWith([]impl.Cell{usedCell(4), usedCell(2), usedCell(1), usedCell(3)}, 0, 1, 2, 3), []int{2, 1, 3, 0}, 4},
		{"roots that are -1 before others", heapWith([]impl.Cell{usedCell(1), usedCell(2)}, -1, 1, -1, 0), heapWith([]impl.Cell{usedCell(2), usedCell(1)}, -1, 0, -1, 1), []int{1, 0}, 4},
		{"roots that are equal", heapWith([]impl.Cell{usedCell(1, 1), usedCell(2), usedCell(3)}, 2, 0, 2, 0), heapWith([]impl.Cell{usedCell(3), usedCell(1, 2), usedCell(2)}, 0, 1, 0, 1), []int{1, 2, 0}, 5},
		{"a row that descends", heapWith([]impl.Cell{usedCell(1), usedCell(2, 0), usedCell(3, 1)}, 2), heapWith([]impl.Cell{usedCell(3, 1), usedCell(2, 2), usedCell(1)}, 0), []int{2, 1, 0}, 6},
		{"a cycle from its middle on", heapWith([]impl.Cell{usedCell(1, 1), usedCell(2, 2), usedCell(3, 0)}, 1), heapWith([]impl.Cell{usedCell(2, 1), usedCell(3, 2), usedCell(1, 0)}, 0), []int{2, 0, 1}, 7},
		{"a tree from its end", heapWith([]impl.Cell{usedCell(1), usedCell(2), usedCell(3, 1), usedCell(4, 0), usedCell(5, 3, 2)}, 4), heapWith([]impl.Cell{usedCell(5, 1, 2), usedCell(4, 3), usedCell(3, 4), usedCell(1), usedCell(2)}, 0), []int{3, 4, 2, 1, 0}, 8},
		{"what is near before what is far", heapWith([]impl.Cell{usedCell(1, 3, 1), usedCell(2, 2), usedCell(3), usedCell(4, 4), usedCell(5)}, 0), heapWith([]impl.Cell{usedCell(1, 1, 2), usedCell(4, 3), usedCell(2, 4), usedCell(5), usedCell(3)}, 0), []int{0, 2, 4, 1, 3}, 8},
		{"references in their order, with -1 between", heapWith([]impl.Cell{usedCell(1), usedCell(2, 3, -1, 0), usedCell(3, 2), usedCell(4, 2)}, 1), heapWith([]impl.Cell{usedCell(2, 1, -1, 2), usedCell(4, 3), usedCell(1), usedCell(3, 3)}, 0), []int{2, 0, 3, 1}, 9},
		{"a later root before a reference", heapWith([]impl.Cell{usedCell(1), usedCell(2, 0), usedCell(3)}, 1, 2), heapWith([]impl.Cell{usedCell(2, 2), usedCell(3), usedCell(1)}, 0, 1), []int{2, 0, 1}, 5},
		{"two cells that refer to each other and to themselves", heapWith([]impl.Cell{usedCell(1, 1, 0), usedCell(2, 1, 0, -1)}, 1), heapWith([]impl.Cell{usedCell(2, 0, 1, -1), usedCell(1, 0, 1)}, 0), []int{1, 0}, 9},
		{"a row of MaxCells cells that descends", heapWith(chainOf(impl.MaxCells), last), heapWith(turnedChain(impl.MaxCells), 0), down, 44},
		{"a cycle of MaxCells cells from its middle on", heapWith(ringOf(impl.MaxCells, 0), -1, 17), heapWith(ringOf(impl.MaxCells, 17), -1, 0), slices.Concat(rangeOf(23, last), rangeOf(0, 22)), 44},
		{"a tree of MaxCells cells that descends", placed(tree, impl.MaxCells, down), tree, down, 43},
	}
}

// copiesBesideLost are heaps in which some cells are lost, or not used.
func copiesBesideLost() []copyCase {
	const last = impl.MaxCells - 1
	none := impl.Cell{}
	loose := slices.Repeat([]impl.Cell{usedCell(1, -1)}, impl.MaxCells)
	return []copyCase{
		{"a lost cell at the beginning", heapWith([]impl.Cell{usedCell(1), usedCell(2, 2), usedCell(3)}, -1, 1), heapWith([]impl.Cell{usedCell(2, 1), usedCell(3)}, -1, 0), []int{-1, 0, 1}, 5},
		{"a lost cell in the middle", heapWith([]impl.Cell{usedCell(1, 2), usedCell(2, -1), usedCell(3)}, 0), heapWith([]impl.Cell{usedCell(1, 1), usedCell(3)}, 0), []int{0, -1, 1}, 5},
		{"a lost cell at the end", heapWith([]impl.Cell{usedCell(1, 1), usedCell(2), usedCell(3, -1, -1)}, 0), heapWith([]impl.Cell{usedCell(1, 1), usedCell(2)}, 0), []int{0, 1, -1}, 5},
		{"lost cells at the beginning, in the middle and at the end", heapWith([]impl.Cell{usedCell(1), usedCell(2), usedCell(3), usedCell(4), usedCell(5)}, 3, 1), heapWith([]impl.Cell{usedCell(4), usedCell(2)}, 0, 1), []int{-1, 1, -1, 0, -1}, 4},
		{"a lost cell that refers to reached ones", heapWith([]impl.Cell{usedCell(5, 1, -1), usedCell(6, 0), usedCell(7, 0, 1, 0)}, 0), heapWith([]impl.Cell{usedCell(5, 1, -1), usedCell(6, 0)}, 0), []int{0, 1, -1}, 7},
		{"a lost cell that refers to reached ones in another order", heapWith([]impl.Cell{usedCell(7, 2, 1), usedCell(5), usedCell(6)}, 1, 2), heapWith([]impl.Cell{usedCell(5), usedCell(6)}, 0, 1), []int{-1, 0, 1}, 4},
		{"a lost cell that refers to itself", heapWith([]impl.Cell{usedCell(1, 0), usedCell(2)}, 1), heapWith([]impl.Cell{usedCell(2)}, 0), []int{-1, 0}, 4},
		{"two lost cells that refer to each other", heapWith([]impl.Cell{usedCell(1, 1), usedCell(2, 0), usedCell(3)}, 2), heapWith([]impl.Cell{usedCell(3)}, 0), []int{-1, -1, 0}, 4},
		{"a lost cycle that leads to a reached one", heapWith([]impl.Cell{usedCell(1, 1, 2), usedCell(2, 0), usedCell(3, 3), usedCell(4, 2)}, -1, 3), heapWith([]impl.Cell{usedCell(4, 1), usedCell(3, 0)}, -1, 0), []int{-1, -1, 1, 0}, 6},
		{"a row from its middle on", heapWith([]impl.Cell{usedCell(1, 1), usedCell(2, 2), usedCell(3)}, 1), heapWith([]impl.Cell{usedCell(2, 1), usedCell(3)}, 0), []int{-1, 0, 1}, 5},
		{"cells that are not used between others", heapWith([]impl.Cell{none, usedCell(7, 3, 3), none, usedCell(8), none, usedCell(9, 1)}, 5), heapWith([]impl.Cell{usedCell(9, 1), usedCell(7, 2, 2), usedCell(8)}, 0), []int{-1, 1, -1, 2, -1, 0}, 7},
		{"cells that are not used, and lost ones", heapWith([]impl.Cell{none, usedCell(1, 4), usedCell(2, 1), none, usedCell(3), usedCell(4, 5)}, 1), heapWith([]impl.Cell{usedCell(1, 1), usedCell(3)}, 0), []int{-1, 0, -1, -1, 1, -1}, 5},
		{"half of MaxCells cells are lost", heapWith(chainOf(impl.MaxCells), 19), heapWith(turnedChain(20), 0), slices.Concat(downFrom(19), manyOf(-1, 20)), 24},
		{"all of MaxCells cells but the first one are lost", heapWith(chainOf(impl.MaxCells), 0), heapWith([]impl.Cell{usedCell(0, -1)}, 0), slices.Concat([]int{0}, manyOf(-1, last)), 5},
		{"all of MaxCells cells but the last one are lost", heapWith(loose, -1, last), heapWith(loose[:1], -1, 0), slices.Concat(manyOf(-1, last), []int{0}), 5},
		{"one of MaxCells cells is lost", heapWith(chainOf(impl.MaxCells), last-1), heapWith(turnedChain(last), 0), slices.Concat(downFrom(last-1), []int{-1}), 43},
	}
}

// allCopies are all written copies.
func allCopies() []copyCase {
	return slices.Concat(copiesOfNothing(), copiesInOrder(), copiesInOtherOrders(), copiesBesideLost())
}

// P6, P69, P70: the results of single heaps, written out.
func TestOneCopy(t *testing.T) {
	for _, c := range allCopies() {
		checkCopyIs(t, c.heap, c.want, c.forward, len(c.want.Cells), c.looked)
		checkCopyIs(t, c.want, c.want, rangeOf(0, len(c.want.Cells)-1), len(c.want.Cells), c.looked)
	}
	for _, c := range slices.Concat(cellsMetTwice(), cellsInOrder()) {
		// A view has a number for every root, two more for every cell, and one for every reference.
		want, _ := heapOfView(c.view)
		forward := manyOf(-1, len(c.heap.Cells))
		for k, number := range c.met {
			forward[number] = k
		}
		checkCopyIs(t, c.heap, want, forward, len(c.met), len(c.view)-2*len(c.met))
	}
	for _, c := range writtenLists() {
		cells := len(c.want.Cells)
		checkCopyIs(t, c.want, c.want, rangeOf(0, cells-1), cells, len(c.list)-2*cells)
	}
}

// P6, P69: in whatever order the cells of the written cases stand, the copy is the same one, of as many steps.
func TestCopiesInEveryOrder(t *testing.T) {
	for _, c := range allCopies() {
		cells := len(c.heap.Cells)
		if cells > 6 {
			continue
		}
		eachOrder(cells, func(at []int) {
			forward := make([]int, cells)
			for number, k := range c.forward {
				forward[at[number]] = k
			}
			checkCopyIs(t, placed(c.heap, cells, at), c.want, forward, len(c.want.Cells), c.looked)
		})
	}
}

// checkLooksTheSame fails unless all cells of the copy of a valid heap can be reached, a program sees the same, and copying again changes nothing; it returns the copy.
func checkLooksTheSame(t *testing.T, h impl.Heap) impl.Heap {
	t.Helper()
	next := impl.CopyHeap(h)
	if !impl.HeapValid(next) || !validHeap(next) {
		t.Fatalf("CopyHeap(%v) = %v, which is not valid", h, next)
	}
	if slices.Contains(impl.Reachable(next), false) || slices.Contains(reachableOf(next), false) {
		t.Fatalf("CopyHeap(%v) = %v, of which %v can be reached", h, next, impl.Reachable(next))
	}
	if !impl.SameView(h, next) || !slices.Equal(viewOf(h), viewOf(next)) || !sameLook(h, next) {
		t.Fatalf("CopyHeap(%v) = %v, of which a program sees %v", h, next, impl.ViewOf(next))
	}
	cells, looked := impl.CopySteps(h)
	checkCopyIs(t, next, next, rangeOf(0, len(next.Cells)-1), cells, looked)
	return next
}

// P6: copied heaps look the same: all cells of the copy can be reached, a program sees the same, and copying again changes nothing.
func TestCopiedHeapsLookTheSame(t *testing.T) {
	nothing, smaller, turned, equal := 0, 0, 0, 0
	eachCopied(func(h impl.Heap) {
		switch next := checkLooksTheSame(t, h); {
		case len(next.Cells) == 0 && len(h.Cells) > 0:
			nothing++
		case len(next.Cells) < len(h.Cells):
			smaller++
		case !sameHeap(next, h):
			turned++
		default:
			equal++
		}
	})
	if nothing == 0 || smaller == 0 || turned == 0 || equal == 0 {
		t.Errorf("nothing is copied of %d heaps, and not everything of %d; %d copies have another order, and %d are equal", nothing, smaller, turned, equal)
	}
}

// P69: copies are found: cell number k of MetOrder becomes cell k, every other cell becomes -1, and the copied cell has the same number.
func TestCopiesAreFound(t *testing.T) {
	found, others := 0, 0
	eachCopied(func(h impl.Heap) {
		met, forward, next := impl.MetOrder(h), impl.CopyForward(h), impl.CopyHeap(h)
		if len(forward) != len(h.Cells) || len(next.Cells) != len(met) {
			t.Fatalf("CopyForward(%v) = %v, and CopyHeap = %v", h, forward, next)
		}
		for k, number := range met {
			found++
			c := next.Cells[k]
			if forward[number] != k || !c.Used || c.Data != h.Cells[number].Data || len(c.Refs) != len(h.Cells[number].Refs) {
				t.Fatalf("CopyForward(%v) = %v, CopyHeap = %v, and MetOrder = %v", h, forward, next, met)
			}
		}
		for number, reached := range impl.Reachable(h) {
			if reached {
				continue
			}
			others++
			if forward[number] != -1 {
				t.Fatalf("CopyForward(%v) = %v, and cell %d cannot be reached", h, forward, number)
			}
		}
		if again := impl.MetOrder(next); !slices.Equal(again, rangeOf(0, len(met)-1)) {
			t.Fatalf("CopyHeap(%v) = %v, whose cells are met in the order %v", h, next, again)
		}
	})
	if found == 0 || others == 0 {
		t.Errorf("%d cells were copied, and %d were not", found, others)
	}
}

// P69: each root and each reference of the copy leads to the copy of the cell to which it led.
func TestReferencesLeadToCopies(t *testing.T) {
	led, empty := 0, 0
	eachCopied(func(h impl.Heap) {
		forward, next := impl.CopyForward(h), impl.CopyHeap(h)
		check := func(before, after []int) {
			for place, target := range before {
				want := -1
				if target == -1 {
					empty++
				} else {
					led++
					want = forward[target]
				}
				if after[place] != want {
					t.Fatalf("CopyHeap(%v) = %v, and CopyForward = %v", h, next, forward)
				}
			}
		}
		check(h.Roots, next.Roots)
		for number, k := range forward {
			if k != -1 {
				check(h.Cells[number].Refs, next.Cells[k].Refs)
			}
		}
	})
	if led == 0 || empty == 0 {
		t.Errorf("%d references led to cells, and %d were -1", led, empty)
	}
}

// P69: a cell that stands elsewhere becomes the same cell of the copy.
func TestMovedCellsAreFound(t *testing.T) {
	check := func(h impl.Heap) {
		cells, forward := len(h.Cells), impl.CopyForward(h)
		for _, placeOf := range []func(number int) int{
			func(number int) int { return cells - 1 - number },
			func(number int) int { return (number + cells/2) % cells },
			func(number int) int { return 2 * number },
			func(number int) int { return 2*(cells-1-number) + 1 },
		} {
			places, most := make([]int, cells), -1
			for number := range places {
				places[number] = placeOf(number)
				most = max(most, places[number])
			}
			if most >= impl.MaxCells {
				continue
			}
			got := impl.CopyForward(placed(h, most+1, places))
			for number, place := range places {
				if got[place] != forward[number] {
					t.Fatalf("CopyForward(%v) = %v, and with the cells at %v it is %v", h, forward, places, got)
				}
			}
		}
	}
	eachHeapOf(2, 2, 2, check)
	eachHeapOf(3, 1, 2, check)
	for _, h := range validHeapsOfAllSizes() {
		check(h)
	}
}

// withoutLost returns a heap in which all cells that cannot be reached are not used.
func withoutLost(h impl.Heap) impl.Heap {
	reached := reachableOf(h)
	return withoutCells(h, func(number int) bool { return !reached[number] })
}

// P70: copying takes what lives: as many cells are copied as can be reached, and as many references looked at as the copy has, together with the roots; lost cells cost nothing, whether they are used or not, and whatever they refer to.
func TestCopyingTakesWhatLives(t *testing.T) {
	nothing, some, all := 0, 0, 0
	eachCopied(func(h impl.Heap) {
		cells, looked := impl.CopySteps(h)
		used, live := impl.UsedCells(h)
		next := impl.CopyHeap(h)
		refs := impl.MaxRoots
		for _, c := range next.Cells {
			refs += len(c.Refs)
		}
		if cells != live || cells != len(next.Cells) || cells != len(metOrderOf(h)) || looked != refs {
			t.Fatalf("CopySteps(%v) = %d, %d, and CopyHeap = %v", h, cells, looked, next)
		}
		for _, other := range []impl.Heap{withLostCells(h), withoutLost(h)} {
			if many, refs := impl.CopySteps(other); many != cells || refs != looked {
				t.Fatalf("CopySteps(%v) = %d, %d, and CopySteps(%v) = %d, %d", h, cells, looked, other, many, refs)
			}
		}
		switch {
		case live == used:
			all++
		case live == 0:
			nothing++
		default:
			some++
		}
	})
	if nothing == 0 || some == 0 || all == 0 {
		t.Errorf("everything is lost in %d heaps, something in %d, and nothing in %d", nothing, some, all)
	}
}

// P70: a further reference of a reached cell is looked at, and one of a lost cell is not, whatever they lead to.
func TestReferencesThatAreLookedAt(t *testing.T) {
	looks, others := 0, 0
	for _, h := range slices.Concat(validHeapsOfAllSizes(), oneUnused()) {
		reached := reachableOf(h)
		cells, looked := impl.CopySteps(h)
		for number, c := range h.Cells {
			if !c.Used || len(c.Refs) == impl.MaxRefs {
				continue
			}
			other := copyOf(h)
			// What the cell refers to can be reached already, if it can.
			for _, target := range []int{-1, number, h.Roots[0]} {
				other.Cells[number].Refs = append(slices.Clone(c.Refs), target)
				want := looked
				if reached[number] {
					want++
					looks++
				} else {
					others++
				}
				if many, refs := impl.CopySteps(other); many != cells || refs != want {
					t.Fatalf("CopySteps(%v) = %d, %d, not %d, %d", other, many, refs, cells, want)
				}
			}
		}
	}
	if looks == 0 || others == 0 {
		t.Errorf("%d further references are looked at, and %d are not", looks, others)
	}
}

// P120: copies are views: the copy of a heap is the heap of its view.
func TestCopiesAreViews(t *testing.T) {
	eachCopied(func(h impl.Heap) {
		view := impl.ViewOf(h)
		next := impl.CopyHeap(h)
		if want, ok := impl.HeapOf(view); !ok || !sameHeap(next, want) {
			t.Fatalf("CopyHeap(%v) = %v, and HeapOf(%v) = %v, %v", h, next, view, want, ok)
		}
		if want, ok := heapOfView(viewOf(h)); !ok || !sameHeap(next, want) || !slices.Equal(impl.ViewOf(next), view) {
			t.Fatalf("CopyHeap(%v) = %v, with the view %v, not %v", h, next, impl.ViewOf(next), view)
		}
	})
	for _, view := range someViews() {
		h, _ := impl.HeapOf(view)
		checkCopyIs(t, h, h, rangeOf(0, len(h.Cells)-1), len(h.Cells), len(view)-2*len(h.Cells))
	}
}

// P120: heaps of which a program sees the same have the same copy, wherever their cells are, and whatever is lost; others have not.
func TestEqualViewsHaveEqualCopies(t *testing.T) {
	check := func(h impl.Heap) {
		want := impl.CopyHeap(h)
		swept, _ := impl.CollectSweep(h)
		for _, other := range append(elsewhere(h), swept, withLostCells(h)) {
			if got := impl.CopyHeap(other); !sameHeap(got, want) {
				t.Fatalf("CopyHeap(%v) = %v, and CopyHeap(%v) = %v", h, want, other, got)
			}
		}
	}
	eachHeapOf(2, 2, 2, check)
	eachHeapOf(3, 1, 2, check)
	for _, h := range slices.Concat(validHeapsOfAllSizes(), oneUnused()) {
		check(h)
	}
	same, others := 0, 0
	heaps := smallHeaps()
	for k, a := range heaps {
		for _, b := range heaps[:k] {
			look := sameLook(a, b)
			if sameHeap(impl.CopyHeap(a), impl.CopyHeap(b)) != look {
				t.Fatalf("%v and %v have the copies %v and %v", a, b, impl.CopyHeap(a), impl.CopyHeap(b))
			}
			if look {
				same++
			} else {
				others++
			}
		}
	}
	if same == 0 || others == 0 {
		t.Errorf("%d pairs look the same, and %d do not", same, others)
	}
}

// P6, P69, P70: where everything is lost there is no cell in the copy, whatever the cells refer to; it is the empty heap.
func TestCopiesWhereEverythingIsLost(t *testing.T) {
	for cells := range impl.MaxCells + 1 {
		lists := [][]impl.Cell{make([]impl.Cell, cells)}
		if cells > 0 {
			lists = append(lists, shapesOf(cells)...)
		}
		for turn := range 10 {
			lists = append(lists, mixedHeap(cells, turn).Cells)
		}
		for _, list := range lists {
			checkCopyIs(t, heapWith(list), impl.EmptyHeap(), manyOf(-1, cells), 0, 4)
		}
	}
}

// P6, P69: every one of MaxCells cells can be the only one that is copied, the only one that is not, and the first one.
func TestEveryCellIsCopied(t *testing.T) {
	for number := range impl.MaxCells {
		loose := slices.Repeat([]impl.Cell{usedCell(7, -1)}, impl.MaxCells)
		loose[number] = usedCell(number, number)
		only := manyOf(-1, impl.MaxCells)
		only[number] = 0
		for root := range impl.MaxRoots {
			h, want := heapWith(loose), heapWith([]impl.Cell{usedCell(number, 0)})
			h.Roots[root], want.Roots[root] = number, 0
			checkCopyIs(t, h, want, only, 1, 5)
		}
		// A cycle from the cell on, and a row that leaves it out.
		ring, last := ringOf(impl.MaxCells, 0), impl.MaxCells-1
		checkCopyIs(t, heapWith(ring, number), heapWith(ringOf(impl.MaxCells, number), 0), slices.Concat(rangeOf(impl.MaxCells-number, last), rangeOf(0, last-number)), impl.MaxCells, 44)
		ring[(number+last)%impl.MaxCells].Refs[0] = -1
		forward := slices.Concat(rangeOf(last-number, last-1), []int{-1}, rangeOf(0, last-1-number))
		if h := heapWith(ring, (number+1)%impl.MaxCells); !slices.Equal(impl.CopyForward(h), forward) || len(impl.CopyHeap(h).Cells) != last {
			t.Fatalf("CopyForward(%v) = %v, not %v", h, impl.CopyForward(h), forward)
		}
	}
}

// P69: every cell can be met from every cell, from every root and at every place.
func TestEveryCellIsCopiedFromEveryCell(t *testing.T) {
	for from := range impl.MaxCells {
		for to := range impl.MaxCells {
			cells := slices.Repeat([]impl.Cell{usedCell(7)}, impl.MaxCells)
			place := (from + to) % impl.MaxRefs
			refs, wanted := manyOf(-1, impl.MaxRefs), manyOf(-1, impl.MaxRefs)
			refs[place], wanted[place] = to, 1
			cells[from] = usedCell(8, refs...)
			forward := manyOf(-1, impl.MaxCells)
			forward[from], forward[to] = 0, 1
			want := []impl.Cell{usedCell(8, wanted...), usedCell(7)}
			if from == to {
				forward[from], wanted[place] = 0, 0
				want = want[:1]
			}
			h, next := heapWith(cells), heapWith(want)
			h.Roots[from%impl.MaxRoots], next.Roots[from%impl.MaxRoots] = from, 0
			checkCopyIs(t, h, next, forward, len(want), 7)
		}
	}
}

// P6, P69: the copies of rows of every length, from every cell on.
func TestCopiesOfRows(t *testing.T) {
	for cells := 1; cells <= impl.MaxCells; cells++ {
		for first := range cells {
			forward := slices.Concat(downFrom(first), manyOf(-1, cells-1-first))
			checkCopyIs(t, heapWith(chainOf(cells), first), heapWith(turnedChain(first+1), 0), forward, first+1, first+5)
			left := cells - first
			forward = slices.Concat(manyOf(-1, first), rangeOf(0, left-1))
			checkCopyIs(t, heapWith(turnedChain(cells), first), heapWith(turnedChain(left), 0), forward, left, left+4)
		}
	}
}

// P6, P69: the copy of a tree of MaxCells cells is the tree by its levels, wherever its cells stand; from a branch on it is what the branch has.
func TestCopiesOfATree(t *testing.T) {
	tree, deep := threefoldTree()
	for turn := range 40 {
		at := rangeOf(0, impl.MaxCells-1)
		state := uint32(turn)
		for k := range at {
			state = state*1664525 + 1013904223
			other := int(state>>16) % (k + 1)
			at[k], at[other] = at[other], at[k]
		}
		forward := make([]int, impl.MaxCells)
		for number, place := range at {
			forward[place] = number
		}
		checkCopyIs(t, placed(tree, impl.MaxCells, at), tree, forward, impl.MaxCells, 43)
	}
	// With the cells in the order of a walk that goes as deep as possible the levels are put together again.
	at := make([]int, impl.MaxCells)
	for place, number := range deep {
		at[number] = place
	}
	checkCopyIs(t, placed(tree, impl.MaxCells, at), tree, deep, impl.MaxCells, 43)
	branch := heapWith(tree.Cells, -1, 2)
	var want []impl.Cell
	for _, number := range []int{2, 7, 8, 9} {
		k := len(want)
		want = append(want, usedCell(number, 3*k+1, 3*k+2, 3*k+3))
	}
	forward := manyOf(-1, impl.MaxCells)
	for k, number := range []int{2, 7, 8, 9, 22, 23, 24, 25, 26, 27, 28, 29, 30} {
		forward[number] = k
		if number > 9 {
			want = append(want, usedCell(number))
		}
	}
	checkCopyIs(t, branch, heapWith(want, -1, 0), forward, 13, 16)
}

// P6: copies of copies are the same ones, and what is lost by later instructions is left out of the next copy.
func TestCopiesOfChangedCopies(t *testing.T) {
	for turn, list := range longPrograms() {
		h := mixedHeap(turn%20, turn)
		for _, o := range list {
			h, _ = impl.StepHeap(checkLooksTheSame(t, h), o)
			checkCopy(t, h)
		}
	}
}

// TestCopyRunsAreTheDefinition: for many programs and limits RunCopy is what the chapter defines.
func TestCopyRunsAreTheDefinition(t *testing.T) {
	ended, stopped := 0, 0
	eachSweepRun(func(list []impl.Command, limit int) {
		if checkCopyRun(t, list, limit) {
			ended++
		} else {
			stopped++
		}
	})
	if ended == 0 || stopped == 0 {
		t.Errorf("%d programs came to their end, and %d did not", ended, stopped)
	}
}

// TestCopyRunsGoStepByStep: the heap after a program is that after its last instruction, in the heap after those before it, which is copied before OpNew if there are as many cells as the limit; the program stops at the first OpNew for which there is no cell then.
func TestCopyRunsGoStepByStep(t *testing.T) {
	copies := 0
	for turn, list := range longPrograms() {
		for _, limit := range []int{1, 2, 3, 5, 7, 12, 1 + turn%impl.MaxCells, impl.MaxCells} {
			h, ended := impl.EmptyHeap(), true
			for k, o := range list {
				if ended && o.Op == impl.OpNew && len(h.Cells) == limit {
					copies++
					h = impl.CopyHeap(h)
					ended = len(h.Cells) < limit
				}
				if ended {
					h, _ = impl.StepHeap(h, o)
				}
				if got, ok := impl.RunCopy(list[:k+1], limit); ok != ended || !sameHeap(got, h) || len(got.Cells) > limit {
					t.Fatalf("RunCopy(%v, %d) = %v, %v, not %v, %v", list[:k+1], limit, got, ok, h, ended)
				}
			}
		}
	}
	if copies == 0 {
		t.Error("no heap was copied")
	}
}

// RunCopy: a program comes to its end exactly if there is always a cell beside those that can be reached, and sees then the same as without freeing, and as with sweeping; otherwise the heap is a copy of as many cells as the limit, of which it sees what it sees without freeing before the OpNew for which there is no cell. There are never more cells than the limit.
func TestProgramsSeeTheSameWithCopying(t *testing.T) {
	ended, stopped, freed := 0, 0, 0
	eachSweepRun(func(list []impl.Command, limit int) {
		got, ok := impl.RunCopy(list, limit)
		if ok != (limit >= leastLimitOf(list)) || len(got.Cells) > limit || !validHeap(got) {
			t.Fatalf("RunCopy(%v, %d) = %v, %v", list, limit, got, ok)
		}
		before := list
		if !ok {
			at := slices.IndexFunc(rangeOf(0, len(list)), func(k int) bool { return leastLimitOf(list[:k]) > limit })
			before = list[:at-1]
			if len(got.Cells) != limit || !sameHeap(impl.CopyHeap(got), got) {
				t.Fatalf("RunCopy(%v, %d) = %v, %v, which is no copy", list, limit, got, ok)
			}
			stopped++
		}
		all := impl.RunHeap(before)
		if !impl.SameView(got, all) || !slices.Equal(viewOf(got), viewOf(all)) {
			t.Fatalf("RunCopy(%v, %d) = %v, %v, and RunHeap shows %v", list, limit, got, ok, all)
		}
		if swept, done := impl.RunSweep(list, limit); done != ok || !impl.SameView(got, swept) {
			t.Fatalf("RunCopy(%v, %d) = %v, %v, and RunSweep = %v, %v", list, limit, got, ok, swept, done)
		}
		if ok {
			ended++
		}
		if len(got.Cells) < len(all.Cells) {
			freed++
		}
	})
	if ended == 0 || stopped == 0 || freed == 0 {
		t.Errorf("%d programs came to their end, %d did not, and %d have freed cells", ended, stopped, freed)
	}
}

// RunCopy: with a limit that is not less than the number of new cells nothing is copied: the heap is that of RunHeap.
func TestWideLimitsCopyNothing(t *testing.T) {
	lost := 0
	eachProgram(func(list []impl.Command) {
		news := 0
		for _, o := range list {
			if o.Op == impl.OpNew {
				news++
			}
		}
		all := impl.RunHeap(list)
		lost += len(leakedOf(all))
		for _, limit := range []int{max(1, news), min(news+1, impl.MaxCells), impl.MaxCells} {
			if got, ok := impl.RunCopy(list, limit); !ok || !sameHeap(got, all) {
				t.Fatalf("RunCopy(%v, %d) = %v, %v", list, limit, got, ok)
			}
		}
	})
	if lost == 0 {
		t.Error("no cell was lost")
	}
}

type copyRun struct {
	name  string
	list  []impl.Command
	limit int
	want  impl.Heap
	ok    bool
}

// copiesInTurn are programs that make cells only.
func copiesInTurn() []copyRun {
	three, apart := []impl.Command{opNew(0, 0, 1), opNew(0, 0, 2), opNew(0, 0, 3)}, []impl.Command{opNew(0, 0, 1), opNew(2, 1, 2), opNew(1, 2, 3)}
	late := []impl.Command{opNew(2, 0, 1), opNew(0, 0, 2), opNew(1, 0, 3)}
	one, four := make([]impl.Command, impl.MaxCommands), make([]impl.Command, impl.MaxCommands)
	var ones, fours []impl.Cell
	for k := range impl.MaxCommands {
		one[k], four[k] = opNew(0, 0, k), opNew(k%4, 1, k)
		ones, fours = append(ones, usedCell(k)), append(fours, usedCell(k, -1))
	}
	return []copyRun{
		{"three cells as one root", three, 1, heapWith([]impl.Cell{usedCell(1)}, 0), false},
		{"three cells as one root", three, 2, heapWith([]impl.Cell{usedCell(2), usedCell(3)}, 1), true},
		{"three cells as one root", three, 3, heapWith([]impl.Cell{usedCell(1), usedCell(2), usedCell(3)}, 2), true},
		{"three cells as one root", three, impl.MaxCells, heapWith([]impl.Cell{usedCell(1), usedCell(2), usedCell(3)}, 2), true},
		{"three cells as three roots", apart, 1, heapWith([]impl.Cell{usedCell(1)}, 0), false},
		{"three cells as three roots", apart, 2, heapWith([]impl.Cell{usedCell(1), usedCell(2, -1)}, 0, -1, 1), false},
		{"three cells as three roots", apart, 3, heapWith([]impl.Cell{usedCell(1), usedCell(2, -1), usedCell(3, -1, -1)}, 0, 2, 1), true},
		{"the late cell is the first root when there is no cell", late, 2, heapWith([]impl.Cell{usedCell(2), usedCell(1)}, 0, -1, 1), false},
		{"the late cell is the first root when there is a cell", late, 3, heapWith([]impl.Cell{usedCell(1), usedCell(2), usedCell(3)}, 1, 2, 0), true},
		{"MaxCommands cells as one root", one, 1, heapWith(ones[:1], 0), false},
		{"MaxCommands cells as one root", one, 2, heapWith(ones[38:], 1), true},
		{"MaxCommands cells as one root", one, 3, heapWith(ones[38:], 1), true},
		{"all but one of MaxCommands cells as one root", one[:39], 3, heapWith(ones[36:39], 2), true},
		{"MaxCommands cells as one root", one, 39, heapWith(ones[38:], 1), true},
		{"MaxCommands cells as one root", one, 40, heapWith(ones, 39), true},
		{"MaxCommands cells as four roots in turn", four, 3, heapWith(fours[:3], 0, 1, 2), false},
		{"MaxCommands cells as four roots in turn", four, 4, heapWith(fours[:4], 0, 1, 2, 3), false},
		{"MaxCommands cells as four roots in turn", four, 5, heapWith([]impl.Cell{fours[36], fours[37], fours[38], fours[35], fours[39]}, 0, 1, 2, 4), true},
		{"MaxCommands cells as four roots in turn", four, 40, heapWith(fours, 36, 37, 38, 39), true},
	}
}

// copiesWithCycles are programs that make cells refer to each other.
func copiesWithCycles() []copyRun {
	self := []impl.Command{opNew(0, 1, 9), opSet(0, 0, 0)}
	both := []impl.Command{opNew(0, 1, 1), opNew(1, 1, 2), opSet(0, 1, 0), opSet(1, 0, 0)}
	pair, late := slices.Concat(both, []impl.Command{opDrop(1)}), slices.Concat(both, []impl.Command{opDrop(0)})
	kept, two := []impl.Cell{usedCell(9, 0)}, []impl.Cell{usedCell(1, 1), usedCell(2, 0)}
	turned := []impl.Cell{usedCell(2, 1), usedCell(1, 0)}
	return []copyRun{
		{"a cell that refers to itself, under a new one", slices.Concat(self, []impl.Command{opNew(0, 0, 3)}), 1, heapWith(kept, 0), false},
		{"a cell that refers to itself, under a new one", slices.Concat(self, []impl.Command{opNew(0, 0, 3)}), 2, heapWith([]impl.Cell{kept[0], usedCell(3)}, 1), true},
		{"a cell that refers to itself, and is dropped", slices.Concat(self, []impl.Command{opDrop(0), opNew(2, 0, 3)}), 1, heapWith([]impl.Cell{usedCell(3)}, -1, -1, 0), true},
		{"a cell that refers to itself, and is dropped", slices.Concat(self, []impl.Command{opDrop(0), opNew(2, 0, 3)}), 2, heapWith([]impl.Cell{kept[0], usedCell(3)}, -1, -1, 1), true},
		{"a cell that refers to itself, dropped at the end", slices.Concat(self, []impl.Command{opDrop(0)}), 1, heapWith(kept), true},
		{"cells that refer to themselves, one after the other", slices.Repeat(self, 20), 1, heapWith(kept, 0), false},
		{"cells that refer to themselves, one after the other", slices.Repeat(self, 20), 2, heapWith([]impl.Cell{kept[0], usedCell(9, 1)}, 1), true},
		{"two cells that refer to each other", slices.Concat(pair, []impl.Command{opNew(2, 0, 3)}), 2, heapWith(two, 0), false},
		{"two cells that refer to each other", slices.Concat(pair, []impl.Command{opNew(2, 0, 3)}), 3, heapWith([]impl.Cell{two[0], two[1], usedCell(3)}, 0, -1, 2), true},
		{"two cells that refer to each other, and the late one is a root", slices.Concat(late, []impl.Command{opNew(2, 0, 3)}), 2, heapWith(turned, -1, 0), false},
		{"two cells that refer to each other, and the late one is a root", slices.Concat(late, []impl.Command{opNew(2, 0, 3), opNew(2, 1, 4)}), 3, heapWith([]impl.Cell{usedCell(2, 2), usedCell(3), usedCell(1, 0)}, -1, 0, 1), false},
		{"two cells that refer to each other, and are dropped", slices.Concat(pair, []impl.Command{opDrop(0), opNew(2, 0, 3)}), 2, heapWith([]impl.Cell{usedCell(3)}, -1, -1, 0), true},
		{"two cells that refer to each other, and are dropped after the new one", slices.Concat(pair, []impl.Command{opNew(2, 0, 3), opDrop(0)}), 2, heapWith(two, 0), false},
		{"two cells that refer to each other, and are dropped before two new ones", slices.Concat(pair, []impl.Command{opDrop(0), opNew(2, 0, 3), opNew(3, 0, 4)}), 2, heapWith([]impl.Cell{usedCell(3), usedCell(4)}, -1, -1, 0, 1), true},
		{"a pair that is dropped beside a cell that is not", slices.Concat(pair, []impl.Command{opNew(3, 1, 7), opDrop(0), opSet(3, 3, 0), opNew(1, 2, 8)}), 3, heapWith([]impl.Cell{usedCell(7, 0), usedCell(8, -1, -1)}, -1, 1, -1, 0), true},
	}
}

// copiesInRows are programs that make a row grow, and that have instructions that are not possible.
func copiesInRows() []copyRun {
	odd := []impl.Command{opData(1, 9), opNew(0, 0, 1), opSet(0, 0, 0), opGet(0, 1, 0), opData(2, 3)}
	last := slices.Concat(odd, []impl.Command{opNew(1, 0, 2), opData(0, 8)})
	return []copyRun{
		{"no instructions", nil, 1, heapWith(nil), true},
		{"an empty list of instructions", []impl.Command{}, impl.MaxCells, heapWith(nil), true},
		{"one new cell", []impl.Command{opNew(2, 1, 4)}, 1, heapWith([]impl.Cell{usedCell(4, -1)}, -1, -1, 0), true},
		{"one new cell with Data 0 and without references", []impl.Command{opNew(3, 0, 0)}, 1, heapWith([]impl.Cell{usedCell(0)}, -1, -1, -1, 0), true},
		{"one new cell with MaxData and MaxRefs references", []impl.Command{opNew(0, 3, 99)}, impl.MaxCells, heapWith([]impl.Cell{usedCell(99, -1, -1, -1)}, 0), true},
		{"a new cell after a drop", []impl.Command{opNew(0, 2, 1), opDrop(0), opNew(3, 1, 2)}, 1, heapWith([]impl.Cell{usedCell(2, -1)}, -1, -1, -1, 0), true},
		{"a new cell before a drop", []impl.Command{opNew(0, 2, 1), opNew(3, 1, 2), opDrop(0)}, 1, heapWith([]impl.Cell{usedCell(1, -1, -1)}, 0), false},
		{"a drop alone frees nothing", []impl.Command{opNew(0, 2, 1), opDrop(0)}, 1, heapWith([]impl.Cell{usedCell(1, -1, -1)}), true},
		{"a row of 13 cells", growingRow(13), 13, heapWith(chainOf(13), 12, 12), true},
		{"a row of 13 cells", growingRow(13), 12, heapWith(turnedChain(12), 0, 0), false},
		{"a row of 13 cells", growingRow(13), 1, heapWith(turnedChain(1), 0, 0), false},
		{"a row that is followed to its end before a new cell", slices.Concat(growingRow(3), []impl.Command{opDrop(1), opGet(0, 0, 0), opGet(0, 0, 0), opNew(2, 0, 9)}), 3, heapWith([]impl.Cell{usedCell(0, -1), usedCell(9)}, 0, -1, 1), true},
		{"a row that is followed to its second cell before a new cell", slices.Concat(growingRow(3), []impl.Command{opDrop(1), opGet(0, 0, 0), opNew(2, 0, 9)}), 3, heapWith([]impl.Cell{usedCell(1, 1), usedCell(0, -1), usedCell(9)}, 0, -1, 2), true},
		{"a row that is followed to its second cell before two new cells", slices.Concat(growingRow(3), []impl.Command{opDrop(1), opGet(0, 0, 0), opNew(2, 0, 9), opNew(3, 0, 8)}), 3, heapWith([]impl.Cell{usedCell(1, 2), usedCell(9), usedCell(0, -1)}, 0, -1, 1), false},
		{"instructions that are not possible alone", []impl.Command{opGet(0, 0, 0), opSet(3, 3, 2), opData(1, 1)}, 1, heapWith(nil), true},
		{"instructions that are not possible between others and at the end", odd, 1, heapWith([]impl.Cell{usedCell(1)}, 0), true},
		{"instructions that would be possible behind the one for which there is no cell", last, 1, heapWith([]impl.Cell{usedCell(1)}, 0), false},
		{"instructions that are not possible between new cells", last, 2, heapWith([]impl.Cell{usedCell(8), usedCell(2)}, 0, 1), true},
		{"MaxCommands instructions that are not possible", slices.Repeat([]impl.Command{opGet(0, 0, 0)}, impl.MaxCommands), 1, heapWith(nil), true},
		{"the last instruction makes the cell for which there is none", []impl.Command{opNew(0, 0, 1), opCopy(1, 0), opDrop(0), opNew(0, 0, 2)}, 1, heapWith([]impl.Cell{usedCell(1)}, -1, 0), false},
		{"instructions go on in the copy", []impl.Command{opNew(3, 1, 1), opNew(1, 1, 2), opNew(0, 2, 3), opSet(0, 1, 1), opDrop(1), opNew(1, 0, 4), opGet(2, 0, 1), opData(2, 5)}, 3, heapWith([]impl.Cell{usedCell(3, -1, 2), usedCell(1, -1), usedCell(2, -1)}, 0, -1, -1, 1), false},
		{"instructions go on in the copy", []impl.Command{opNew(3, 1, 1), opNew(1, 1, 2), opNew(0, 2, 3), opSet(0, 1, 1), opDrop(1), opDrop(3), opNew(1, 0, 4), opGet(2, 0, 1), opData(2, 5)}, 3, heapWith([]impl.Cell{usedCell(3, -1, 1), usedCell(5, -1), usedCell(4)}, 0, 2, 1), true},
	}
}

// RunCopy: the heaps after some programs with some limits, written out.
func TestOneCopyRun(t *testing.T) {
	for _, c := range slices.Concat(copiesInTurn(), copiesWithCycles(), copiesInRows()) {
		if got, ok := impl.RunCopy(c.list, c.limit); ok != c.ok || !sameHeap(got, c.want) {
			t.Errorf("%s: RunCopy(%v, %d) = %v, %v, not %v, %v", c.name, c.list, c.limit, got, ok, c.want, c.ok)
		}
	}
	for _, c := range writtenPrograms() {
		if got, ok := impl.RunCopy(c.list, impl.MaxCells); !ok || !sameHeap(got, c.want) {
			t.Errorf("%s: RunCopy(%v, MaxCells) = %v, %v, not %v", c.name, c.list, got, ok, c.want)
		}
	}
}

// RunCopy: a row of every length comes to its end with exactly so many cells, and not with one less; the heap is the copy of the row so far then.
func TestCopyLimitsOfRows(t *testing.T) {
	for cells := 1; 3*cells <= impl.MaxCommands; cells++ {
		for limit := 1; limit <= impl.MaxCells; limit++ {
			want := heapWith(chainOf(cells), cells-1, cells-1)
			if limit < cells {
				want = heapWith(turnedChain(limit), 0, 0)
			}
			if got, ok := impl.RunCopy(growingRow(cells), limit); ok != (limit >= cells) || !sameHeap(got, want) {
				t.Fatalf("RunCopy(%v, %d) = %v, %v", growingRow(cells), limit, got, ok)
			}
		}
	}
}

// RunCopy: when there are as many cells as the limit, the root that alone keeps them alive still does so before OpNew makes it another cell; after a drop nothing does.
func TestNewCellsForTheRootOfAll(t *testing.T) {
	for cells := 1; 3*cells+3 <= impl.MaxCommands; cells++ {
		row := slices.Concat(growingRow(cells), []impl.Command{opDrop(1)})
		for root := range impl.MaxRoots {
			list := append(slices.Clone(row), opNew(root, 2, 77))
			if got, ok := impl.RunCopy(list, cells); ok || !sameHeap(got, heapWith(turnedChain(cells), 0)) {
				t.Fatalf("RunCopy(%v, %d) = %v, %v", list, cells, got, ok)
			}
			want := heapWith(append(chainOf(cells), usedCell(77, -1, -1)), cells-1)
			want.Roots[root] = cells
			if got, ok := impl.RunCopy(list, cells+1); !ok || !sameHeap(got, want) {
				t.Fatalf("RunCopy(%v, %d) = %v, %v, not %v", list, cells+1, got, ok, want)
			}
			list = append(slices.Clone(row), opDrop(0), opNew(root, 2, 77))
			want = heapWith([]impl.Cell{usedCell(77, -1, -1)})
			want.Roots[root] = 0
			if got, ok := impl.RunCopy(list, cells); !ok || !sameHeap(got, want) {
				t.Fatalf("RunCopy(%v, %d) = %v, %v, not %v", list, cells, got, ok, want)
			}
		}
	}
}

// RunCopy: an instruction that is not possible is passed over, wherever it stands.
func TestCopiedInstructionsArePassedOver(t *testing.T) {
	commands := commandsWith(0, 99)
	passed := 0
	for _, many := range []int{0, 1, 2, 5, 12, impl.MaxCommands - 1} {
		for turn := range 4 {
			list := mixedProgram(many, turn)
			for _, limit := range []int{leastLimitOf(list), impl.MaxCells} {
				want, ended := copyRunOf(list, limit)
				for k := range many + 1 {
					before := runOf(list[:k])
					for _, o := range commands {
						if possibleCommand(before, o) {
							continue
						}
						passed++
						if got, ok := impl.RunCopy(slices.Insert(slices.Clone(list), k, o), limit); ok != ended || !sameHeap(got, want) {
							t.Fatalf("RunCopy(%v, %d) with %v before instruction %d = %v, %v, not %v", list, limit, o, k, got, ok, want)
						}
					}
				}
			}
		}
	}
	if passed == 0 {
		t.Error("no instruction was passed over")
	}
}

// P6: also in far more steps than a program has, with every limit, a program sees the same with copying as with sweeping, and there is room for a new cell exactly if there is with sweeping.
func TestCopyingForLong(t *testing.T) {
	copies, refused := 0, 0
	for limit := 1; limit <= impl.MaxCells; limit++ {
		h, swept := heapWith(nil), heapWith(nil)
		for k := range 10 {
			for _, o := range mixedProgram(impl.MaxCommands, 10*limit+k) {
				full := false
				if o.Op == impl.OpNew && len(h.Cells) == limit {
					copies++
					checkCopy(t, h)
					h = impl.CopyHeap(h)
					full = len(h.Cells) == limit
				}
				next, ok := impl.StepSweep(swept, limit, o)
				swept = next
				if full {
					refused++
				} else {
					h, _ = impl.StepHeap(h, o)
				}
				if o.Op == impl.OpNew && ok == full || !impl.SameView(h, swept) || len(h.Cells) > limit {
					t.Fatalf("with %d cells and %v copying shows %v, and sweeping %v", limit, o, h, swept)
				}
			}
		}
	}
	if copies == 0 || refused == 0 {
		t.Errorf("%d heaps were copied, and %d new cells were refused", copies, refused)
	}
}

// P6, P69, P70: a heap that is invalid in any way has no copy.
func TestCopiesOfInvalidHeaps(t *testing.T) {
	for _, h := range invalidHeaps() {
		checkNoCopy(t, h)
	}
}

// P6, P69, P70: with a root or a reference to anything that is no used cell, wherever it stands, and even in a cell that is lost, there is no copy.
func TestCopiesOfOtherTargets(t *testing.T) {
	for _, h := range wideHeaps() {
		targets := append([]int{len(h.Cells)}, oddTargets...)
		if unused := slices.Index(usedFlags(h), false); unused != -1 {
			targets = append(targets, unused)
		}
		other := copyOf(h)
		eachPlace(other, func(place *int) {
			before := *place
			for _, target := range targets {
				*place = target
				checkNoCopy(t, other)
			}
			*place = before
			checkCopy(t, other)
		})
	}
}

// P6, P69, P70: with a cell, whether it is reached, lost or not used, that has what no cell can have, there is no copy.
func TestCopiesOfOtherContents(t *testing.T) {
	for _, h := range wideHeaps() {
		other := copyOf(h)
		for number, c := range h.Cells {
			for _, data := range oddData {
				other.Cells[number].Data = data
				checkNoCopy(t, other)
			}
			other.Cells[number] = impl.Cell{Used: c.Used, Refs: manyOf(-1, impl.MaxRefs+1)}
			checkNoCopy(t, other)
			other.Cells[number] = c
		}
		checkCopy(t, other)
	}
}

// RunCopy: with a limit below 1 or above MaxCells no program has a heap, whether it needs a cell or not, and whether its instructions are possible or not.
func TestOtherLimitsOfCopies(t *testing.T) {
	lists := [][]impl.Command{nil, {}, {opDrop(0)}, {opGet(0, 0, 0)}, {opNew(0, 0, 0)}, growingRow(13), slices.Repeat([]impl.Command{opNew(0, 1, 2)}, impl.MaxCommands)}
	for _, list := range lists {
		for _, limit := range oddLimits {
			checkNoCopyRun(t, list, limit)
		}
		for limit := 1; limit <= 40; limit++ {
			checkCopyRun(t, list, limit)
		}
	}
}

// RunCopy: programs that are too long, or have an invalid instruction, wherever it stands, even behind one for which there is no cell, have no heap.
func TestInvalidProgramsWithCopying(t *testing.T) {
	limits := []int{1, 2, impl.MaxCells}
	eachInvalidProgram(func(list []impl.Command) {
		for _, limit := range limits {
			checkNoCopyRun(t, list, limit)
		}
	})
	for _, o := range []impl.Command{opNew(0, 3, 0), opGet(0, 0, 0), opSet(0, 0, 0), opCopy(0, 0), opDrop(0), opData(0, 0)} {
		for many := range impl.MaxCommands + 1 {
			for _, limit := range limits {
				checkCopyRun(t, slices.Repeat([]impl.Command{o}, many), limit)
			}
		}
	}
	for _, c := range commandNumbers() {
		if !c.want {
			checkNoCopyRun(t, []impl.Command{c.command}, 1)
		}
	}
	checkNoCopyRun(t, []impl.Command{opNew(0, 0, 0), opNew(1, 0, 0), {}}, 1)
	checkNoCopyRun(t, []impl.Command{{}}, 0)
}

// TestCopyingReturnsForAllNumbers: for every number of a root, a reference, Data, an instruction or a limit, and for every length, the functions return what the chapter gives.
func TestCopyingReturnsForAllNumbers(t *testing.T) {
	numbers := manyNumbers()
	few := heapWith([]impl.Cell{usedCell(0, 0), {}, usedCell(99, -1, 2, 0)}, 0, -1, 2)
	for _, o := range []impl.Command{opNew(0, 1, 5), opGet(1, 2, 2), opSet(2, 1, 0), opCopy(2, 0), opDrop(0), opData(2, 50)} {
		list := []impl.Command{opNew(0, 3, 1), opCopy(1, 0), opCopy(2, 0), opCopy(3, 0), o}
		for _, limit := range numbers {
			checkCopyRun(t, list, limit)
		}
		eachNumber(o, func(o *impl.Command, place *int) {
			for _, number := range numbers {
				*place = number
				checkCopyRun(t, append(list[:4:4], *o), 1)
				checkCopyRun(t, []impl.Command{*o}, impl.MaxCells)
			}
		})
	}
	for _, h := range []impl.Heap{copyOf(few), trialHeap()} {
		change := func(place *int) {
			before := *place
			for _, number := range numbers {
				*place = number
				checkCopy(t, h)
			}
			*place = before
		}
		eachPlace(h, change)
		for number := range h.Cells {
			change(&h.Cells[number].Data)
		}
	}
	for many := range 140 {
		checkCopy(t, heapWith(make([]impl.Cell, many)))
		checkCopy(t, heapWith(slices.Repeat([]impl.Cell{usedCell(1, 0)}, many), min(many, 1)-1))
		checkCopy(t, heapWith(chainOf(many), many-1))
		checkCopy(t, heapWith([]impl.Cell{usedCell(0, manyOf(0, many)...)}, 0))
		checkCopy(t, impl.Heap{Cells: []impl.Cell{usedCell(0)}, Roots: manyOf(0, many)})
		checkCopy(t, impl.Heap{Cells: []impl.Cell{usedCell(0)}, Roots: manyOf(-1, many)})
	}
	checkNoCopy(t, heapWith(slices.Repeat([]impl.Cell{usedCell(1, 0)}, 100000), 0))
}

// TestCopyingOfExtremeNumbers: for heaps, instructions and limits whose numbers are all very large or very small the functions return what the chapter gives.
func TestCopyingOfExtremeNumbers(t *testing.T) {
	extremes := []int{math.MinInt, math.MinInt + 1, -1 << 32, -2, -1, 0, 1, 1 << 32, math.MaxInt - 1, math.MaxInt}
	for _, x := range extremes {
		for _, y := range extremes {
			for _, z := range extremes {
				for _, used := range []bool{false, true} {
					c := impl.Cell{Used: used, Data: x, Refs: []int{y}}
					checkCopy(t, heapWith([]impl.Cell{c}, z))
					checkCopy(t, heapWith([]impl.Cell{c, usedCell(0, 0)}, -1, z))
					checkCopy(t, heapWith([]impl.Cell{usedCell(0), c}, z))
				}
				checkNoCopy(t, impl.Heap{Roots: []int{x, y, z}})
				for op := impl.OpNew - 1; op <= impl.OpData+1; op++ {
					o := impl.Command{Op: op, A: x, B: y, C: z}
					for _, limit := range []int{x, 1, impl.MaxCells} {
						checkCopyRun(t, []impl.Command{opNew(0, 3, 1), o}, limit)
					}
				}
			}
		}
	}
}

// P6, P69, P70, P120: nil and empty slices are the same.
func TestNilAndEmptySlicesOfCopying(t *testing.T) {
	for _, cells := range [][]impl.Cell{nil, {}} {
		checkCopyIs(t, heapWith(cells), impl.EmptyHeap(), nil, 0, 4)
	}
	for _, refs := range [][]int{nil, {}} {
		h := heapWith([]impl.Cell{{Refs: refs}, {Used: true, Refs: refs}, usedCell(1, 1), usedCell(2, 3)}, 2)
		checkCopyIs(t, h, heapWith([]impl.Cell{usedCell(1, 1), usedCell(0)}, 0), []int{-1, 1, 0, -1}, 2, 5)
	}
	for _, list := range [][]impl.Command{nil, {}} {
		if got, ok := impl.RunCopy(list, 1); !ok || !sameHeap(got, heapWith(nil)) {
			t.Fatalf("RunCopy without instructions = %v, %v", got, ok)
		}
	}
}

// TestCopyingOfHeapsThatShareMemory: the slices of a heap may be the same ones; those of the copy are not.
func TestCopyingOfHeapsThatShareMemory(t *testing.T) {
	refs := []int{1, -1, 0, 2}
	cells := []impl.Cell{usedCell(1, refs[:3]...), usedCell(2, refs[1:]...), usedCell(3, refs[:3]...), usedCell(4, refs[:3]...)}
	for _, h := range []impl.Heap{{Cells: cells, Roots: refs}, heapWith(cells, 0, 2), heapWith(cells, 3), heapWith(cells)} {
		before := copyOf(h)
		checkCopy(t, h)
		checkLooksTheSame(t, h)
		overwriteHeap(t, impl.CopyHeap(h), impl.CopyForward(h))
		if !sameHeap(h, before) {
			t.Fatalf("%v became %v", before, h)
		}
	}
	want := heapWith([]impl.Cell{usedCell(2, -1, 1, 2), usedCell(1, 0, -1, 1), usedCell(3, 0, -1, 1)}, 0, -1, 1, 2)
	checkCopyIs(t, impl.Heap{Cells: cells, Roots: refs}, want, []int{1, 0, 2, -1}, 3, 13)
}

// checkCopiesShareNothing fails if the functions of the chapter change a heap or the spare capacity of its slices, or if overwriting their results, with the spare capacity, changes the heap or another result.
func checkCopiesShareNothing(t *testing.T, h impl.Heap) {
	t.Helper()
	s := spareOf(h)
	before := s.state()
	checkUnchanged := func() {
		t.Helper()
		if !slices.Equal(s.state(), before) {
			t.Fatalf("the heap %v became %v", h, s.heap)
		}
	}
	next, other := impl.CopyHeap(s.heap), impl.CopyHeap(s.heap)
	forward, otherForward := impl.CopyForward(s.heap), impl.CopyForward(s.heap)
	cells, looked := impl.CopySteps(s.heap)
	want, wantForward := copyOf(next), slices.Clone(forward)
	checkUnchanged()
	overwriteHeap(t, next, forward)
	checkUnchanged()
	if !sameHeap(other, want) || !slices.Equal(otherForward, wantForward) {
		t.Fatalf("results of %v share memory", h)
	}
	checkCopyIs(t, s.heap, want, wantForward, cells, looked)
	// The copy of a copy is equal to its argument, but for the memory.
	again := impl.CopyHeap(other)
	overwriteHeap(t, again)
	if !sameHeap(other, want) {
		t.Fatalf("the copy %v shares memory with a copy of it", want)
	}
	overwriteHeap(t, other, otherForward)
	checkUnchanged()
}

// TestCopiesShareNothing: no heap changes, valid or not, not even when all results are overwritten, and neither does another result, also if the copy is equal to the heap.
func TestCopiesShareNothing(t *testing.T) {
	check := func(h impl.Heap) { checkCopiesShareNothing(t, h) }
	eachHeapOf(2, 2, 2, check)
	eachHeapOf(3, 1, 2, check)
	for _, h := range slices.Concat(validHeapsOfAllSizes(), oneUnused(), invalidHeaps()) {
		check(h)
	}
	for _, c := range allCopies() {
		check(c.heap)
		check(c.want)
	}
	for cells := 1; cells <= impl.MaxCells; cells++ {
		check(grownHeap(cells, cells))
	}
}

// TestLaterStepsChangeNoCopy: copies stay as they are while a program goes on in the heap, and the heap while it goes on in the copy.
func TestLaterStepsChangeNoCopy(t *testing.T) {
	for turn, list := range longPrograms() {
		var all, states []impl.Heap
		keep := func(h impl.Heap) {
			all, states = append(all, h), append(states, copyOf(h))
		}
		h := mixedHeap(turn%30, turn)
		for _, o := range list {
			next := impl.CopyHeap(h)
			keep(h)
			keep(next)
			h, _ = impl.StepHeap(h, o)
			other, _ := impl.StepHeap(next, o)
			keep(other)
		}
		for k := range all {
			if !sameHeap(all[k], states[k]) {
				t.Fatalf("while %v ran %v became %v", list, states[k], all[k])
			}
		}
	}
}

// TestCopyRunsShareNothing: no program changes, valid or not, whether it comes to its end or not, not even when the heap after it is overwritten, and neither does another result.
func TestCopyRunsShareNothing(t *testing.T) {
	check := func(list []impl.Command, limit int) {
		part, whole := withSpareCommands(list)
		before := slices.Clone(whole)
		h, ok := impl.RunCopy(part, limit)
		other, _ := impl.RunCopy(part, limit)
		want := copyOf(h)
		overwriteHeap(t, h)
		if !slices.Equal(whole, before) {
			t.Fatalf("the program %v became %v", before, whole)
		}
		if again, done := impl.RunCopy(part, limit); done != ok || !sameHeap(other, want) || !sameHeap(again, want) {
			t.Fatalf("results of the program %v share memory", list)
		}
	}
	for _, list := range longPrograms() {
		for _, limit := range []int{0, 1, 3, impl.MaxCells} {
			check(list, limit)
			check(slices.Concat(list, []impl.Command{{}}), limit)
		}
	}
	for _, c := range slices.Concat(copiesInTurn(), copiesWithCycles(), copiesInRows()) {
		check(c.list, c.limit)
	}
	check(slices.Repeat([]impl.Command{opNew(0, 3, 1)}, impl.MaxCommands+1), 1)
}
