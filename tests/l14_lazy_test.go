package tests

import (
	"math"
	"slices"
	"testing"

	"loop.example/memorymanagers/impl"
)

// lazyWith returns a lazy heap in which some cells are marked.
func lazyWith(h impl.Heap, at int, marked ...int) impl.Lazy {
	return impl.Lazy{Store: h, Marks: flagsWith(len(h.Cells), marked...), At: at}
}

// copyOfLazy returns a lazy heap that shares no memory with the given one.
func copyOfLazy(l impl.Lazy) impl.Lazy {
	return impl.Lazy{Store: copyOf(l.Store), Marks: slices.Clone(l.Marks), At: l.At}
}

// sameLazy compares all fields: nil and empty slices are the same.
func sameLazy(a, b impl.Lazy) bool {
	return sameHeap(a.Store, b.Store) && slices.Equal(a.Marks, b.Marks) && a.At == b.At
}

// validLazy is what LazyValid must return, from its definition.
func validLazy(l impl.Lazy) bool {
	cells := len(l.Store.Cells)
	if !validHeap(l.Store) || len(l.Marks) != cells || l.At < 0 || l.At > cells {
		return false
	}
	for number, reached := range reachableOf(l.Store) {
		marked, used := l.Marks[number], l.Store.Cells[number].Used
		if reached && !marked || marked && !used || number < l.At && used && !marked {
			return false
		}
	}
	return true
}

// lazyStartOf is what LazyStart must return, from its definition.
func lazyStartOf(h impl.Heap) impl.Lazy {
	if !validHeap(h) {
		return impl.Lazy{}
	}
	return impl.Lazy{Store: copyOf(h), Marks: reachableOf(h)}
}

// lazyTakeOf is what LazyTake must return, from its definition.
func lazyTakeOf(l impl.Lazy) (impl.Lazy, int) {
	if !validLazy(l) {
		return impl.Lazy{}, -1
	}
	next, taken := copyOfLazy(l), l.At
	for taken < len(l.Marks) && l.Marks[taken] {
		taken++
	}
	if taken == len(l.Marks) {
		next.At = taken
		return next, -1
	}
	for number, c := range next.Store.Cells {
		for place, target := range c.Refs {
			if !l.Marks[number] && target != -1 && !l.Marks[target] {
				c.Refs[place] = -1
			}
		}
	}
	next.Store.Cells[taken] = usedCell(0)
	next.Marks[taken] = true
	next.At = taken + 1
	return next, taken
}

// checkLazyStart compares LazyStart with its definition, for valid heaps and for others.
func checkLazyStart(t *testing.T, h impl.Heap) {
	t.Helper()
	if got, want := impl.LazyStart(h), lazyStartOf(h); !sameLazy(got, want) {
		t.Fatalf("LazyStart(%v) = %v, not %v", h, got, want)
	}
}

// checkLazy compares LazyValid and LazyTake with their definitions, for valid lazy heaps and for others, and returns the cell that is taken, and whether the lazy heap is valid.
func checkLazy(t *testing.T, l impl.Lazy) (int, bool) {
	t.Helper()
	valid := validLazy(l)
	if got := impl.LazyValid(l); got != valid {
		t.Fatalf("LazyValid(%v) = %v", l, got)
	}
	want, number := lazyTakeOf(l)
	if got, taken := impl.LazyTake(l); taken != number || !sameLazy(got, want) {
		t.Fatalf("LazyTake(%v) = %v, %d, not %v, %d", l, got, taken, want, number)
	}
	return number, valid
}

// isNoLazy reports whether a lazy heap is the zero value.
func isNoLazy(l impl.Lazy) bool {
	return len(l.Store.Cells) == 0 && len(l.Store.Roots) == 0 && len(l.Marks) == 0 && l.At == 0
}

// checkNoLazyStart fails unless LazyStart returns the zero value.
func checkNoLazyStart(t *testing.T, h impl.Heap) {
	t.Helper()
	if got := impl.LazyStart(h); !isNoLazy(got) {
		t.Fatalf("LazyStart(%v) = %v", h, got)
	}
}

// checkNoLazy fails unless a lazy heap is invalid, and LazyTake returns the zero value and -1.
func checkNoLazy(t *testing.T, l impl.Lazy) {
	t.Helper()
	if impl.LazyValid(l) {
		t.Fatalf("LazyValid(%v) = true", l)
	}
	if got, taken := impl.LazyTake(l); taken != -1 || !isNoLazy(got) {
		t.Fatalf("LazyTake(%v) = %v, %d", l, got, taken)
	}
}

// checkIsLazy fails unless a lazy heap is valid.
func checkIsLazy(t *testing.T, l impl.Lazy) {
	t.Helper()
	if !impl.LazyValid(l) || !validLazy(l) {
		t.Fatalf("LazyValid(%v) = %v", l, impl.LazyValid(l))
	}
}

// lazyMarksFor returns marks for a heap, such with which a lazy heap can be valid and others: those of marksFor, and, if there are many cells, those of what can be reached together with some of the other used cells.
func lazyMarksFor(h impl.Heap) [][]bool {
	all, cells := marksFor(h), len(h.Cells)
	if cells <= 4 {
		return all
	}
	used := usedFlags(h)
	for _, kept := range []func(number int) bool{
		func(number int) bool { return number%2 == 0 },
		func(number int) bool { return number%2 == 1 },
		func(number int) bool { return number < cells/2 },
		func(number int) bool { return number >= cells/2 },
		func(number int) bool { return number != cells-1 },
		func(number int) bool { return number != cells/2 },
	} {
		marks := reachableOf(h)
		for number := range marks {
			marks[number] = marks[number] || used[number] && kept(number)
		}
		all = append(all, marks)
	}
	return all
}

// firstLost returns the first used cell of a heap that is not marked, or the number of cells: sweeping goes on there at the latest.
func firstLost(h impl.Heap, marks []bool) int {
	for number, c := range h.Cells {
		if c.Used && !marks[number] {
			return number
		}
	}
	return len(h.Cells)
}

// atsFor returns numbers of cells at which sweeping could go on, such with which a lazy heap can be valid and others: all if there are few cells, and otherwise those at the beginning, at the end, and around the first lost cell.
func atsFor(h impl.Heap, marks []bool) []int {
	cells, first := len(h.Cells), firstLost(h, marks)
	ats := []int{-1, 0, 1, first / 2, first - 1, first, first + 1, cells / 2, cells - 1, cells, cells + 1}
	if cells <= 4 {
		ats = rangeOf(-1, cells+1)
	}
	slices.Sort(ats)
	return slices.Compact(ats)
}

// eachUnswept calls check with many valid heaps: all of no cell and of one, all of some kinds that have 2 to 4 cells, and some that are larger.
func eachUnswept(check func(h impl.Heap)) {
	eachHeapOf(0, impl.MaxRefs, impl.MaxRoots, check)
	eachHeapOf(1, impl.MaxRefs, impl.MaxRoots, check)
	eachHeapOf(2, impl.MaxRefs, 1, check)
	eachHeapOf(2, 1, impl.MaxRoots, check)
	eachHeapOf(3, 1, 2, check)
	eachHeapOf(3, 2, 1, check)
	eachGraph(3, check)
	eachHeapOf(4, 1, 1, check)
	for cells := range impl.MaxCells + 1 {
		for turn := range 4 {
			check(mixedHeap(cells, turn))
		}
		check(heapWith(mixedHeap(cells, 20).Cells))
	}
	for _, h := range slices.Concat(wideHeaps(), fullHeaps(), oneUnused()) {
		check(h)
	}
	for _, h := range wideHeaps() {
		for _, other := range elsewhere(h) {
			check(other)
		}
	}
}

// eachLazy calls check with lazy heaps, valid and others: those that the heaps of eachUnswept are with different marks and different numbers of the cell at which sweeping goes on.
func eachLazy(check func(l impl.Lazy)) {
	eachUnswept(func(h impl.Heap) {
		for _, marks := range lazyMarksFor(h) {
			for _, at := range atsFor(h, marks) {
				check(impl.Lazy{Store: h, Marks: marks, At: at})
			}
		}
	})
}

// eachValidLazy calls check with the valid ones of eachLazy.
func eachValidLazy(check func(l impl.Lazy)) {
	eachLazy(func(l impl.Lazy) {
		if validLazy(l) {
			check(l)
		}
	})
}

// TestLazySweepingIsTheDefinition: for all heaps of some kinds, with all marks and all numbers of the next cell if there are few cells, and for others, lazy sweeping is what the chapter defines.
func TestLazySweepingIsTheDefinition(t *testing.T) {
	eachUnswept(func(h impl.Heap) { checkLazyStart(t, h) })
	taken, ended, others := 0, 0, 0
	eachLazy(func(l impl.Lazy) {
		switch number, valid := checkLazy(t, l); {
		case !valid:
			others++
		case number == -1:
			ended++
		default:
			taken++
		}
	})
	if taken == 0 || ended == 0 || others == 0 {
		t.Errorf("in %d lazy heaps a cell was taken, in %d not, and %d are not valid", taken, ended, others)
	}
}

// checkBegins fails unless a lazy heap is that of a heap with the marks of some cells, of which none is swept.
func checkBegins(t *testing.T, h impl.Heap, reached []bool) {
	t.Helper()
	l := impl.LazyStart(h)
	if !sameHeap(l.Store, h) || !slices.Equal(l.Marks, reached) || l.At != 0 {
		t.Fatalf("LazyStart(%v) = %v, and %v can be reached", h, l, reached)
	}
	checkIsLazy(t, l)
}

// P66: lazy heaps begin unswept: the heap is the same, the marks are those of Reachable, and the lazy heap is valid.
func TestLazyHeapsBeginUnswept(t *testing.T) {
	lost := 0
	eachSwept(func(h impl.Heap) {
		reached := impl.Reachable(h)
		if !slices.Equal(reached, reachableOf(h)) {
			t.Fatalf("Reachable(%v) = %v", h, reached)
		}
		checkBegins(t, h, reached)
		lost += len(leakedOf(h))
	})
	if lost == 0 {
		t.Error("no cell was lost")
	}
}

// P66: the marks of single heaps, written out, also if their cells stand in another order.
func TestOneLazyStart(t *testing.T) {
	for _, c := range slices.Concat(sweepsOfFew(), sweepsOfSome(), wideSweeps()) {
		cells := len(c.heap.Cells)
		checkBegins(t, c.heap, flagsWith(cells, c.marks...))
		if cells > 6 {
			continue
		}
		eachOrder(cells, func(at []int) {
			reached := make([]bool, cells)
			for _, number := range c.marks {
				reached[at[number]] = true
			}
			checkBegins(t, placed(c.heap, cells, at), reached)
		})
	}
}

type lazyCase struct {
	name   string
	heap   impl.Heap
	at     int
	marked []int
	want   impl.Heap // the heap after a cell is taken
	taken  int
}

// takesOfFreeCells take a cell that is not used.
func takesOfFreeCells() []lazyCase {
	none, made := impl.Cell{}, usedCell(0)
	return []lazyCase{
		{"one free cell", heapWith([]impl.Cell{none}), 0, nil, heapWith([]impl.Cell{made}), 0},
		{"three free cells", heapWith([]impl.Cell{none, none, none}), 0, nil, heapWith([]impl.Cell{made, none, none}), 0},
		{"the second one of three free cells", heapWith([]impl.Cell{none, none, none}), 1, nil, heapWith([]impl.Cell{none, made, none}), 1},
		{"the last one of three free cells", heapWith([]impl.Cell{none, none, none}), 2, nil, heapWith([]impl.Cell{none, none, made}), 2},
		{"a free cell at the beginning", heapWith([]impl.Cell{none, usedCell(1, 2), usedCell(2, -1)}, 1), 0, []int{1, 2}, heapWith([]impl.Cell{made, usedCell(1, 2), usedCell(2, -1)}, 1), 0},
		{"a free cell in the middle", heapWith([]impl.Cell{usedCell(1, 2), none, usedCell(2, -1)}, 0), 0, []int{0, 2}, heapWith([]impl.Cell{usedCell(1, 2), made, usedCell(2, -1)}, 0), 1},
		{"a free cell at the end", heapWith([]impl.Cell{usedCell(1, 1), usedCell(2, -1), none}, 0), 0, []int{0, 1}, heapWith([]impl.Cell{usedCell(1, 1), usedCell(2, -1), made}, 0), 2},
		{"the first one of two free cells beside each other", heapWith([]impl.Cell{usedCell(1), none, none, usedCell(4)}, 0, 3), 0, []int{0, 3}, heapWith([]impl.Cell{usedCell(1), made, none, usedCell(4)}, 0, 3), 1},
		{"a free cell before a lost one, which refers to itself", heapWith([]impl.Cell{none, usedCell(5, 1, -1)}), 0, nil, heapWith([]impl.Cell{made, usedCell(5, -1, -1)}), 0},
		{"a free cell before a lost one, which refers to nothing", heapWith([]impl.Cell{none, usedCell(5)}), 0, nil, heapWith([]impl.Cell{made, usedCell(5)}), 0},
		{"a free cell before lost ones that refer to each other and to a reached one", heapWith([]impl.Cell{usedCell(1), none, usedCell(3, 3, 0), usedCell(4, 2)}, 0), 0, []int{0}, heapWith([]impl.Cell{usedCell(1), made, usedCell(3, -1, 0), usedCell(4, -1)}, 0), 1},
		{"a free cell behind a marked lost one", heapWith([]impl.Cell{usedCell(1, 0), none}), 0, []int{0}, heapWith([]impl.Cell{usedCell(1, 0), made}), 1},
		{"a free cell between marked lost ones", heapWith([]impl.Cell{usedCell(1, 2, 0), none, usedCell(3, 0)}), 1, []int{0, 2}, heapWith([]impl.Cell{usedCell(1, 2, 0), made, usedCell(3, 0)}), 1},
		{"a free cell before a lost one to which a marked lost one refers", heapWith([]impl.Cell{usedCell(1, 2), none, usedCell(3, 0, 2)}), 1, []int{0}, heapWith([]impl.Cell{usedCell(1, 2), made, usedCell(3, 0, -1)}), 1},
	}
}

// takesOfLostCells take a cell that is used and is not marked.
func takesOfLostCells() []lazyCase {
	none, made := impl.Cell{}, usedCell(0)
	return []lazyCase{
		{"one lost cell that had Data and references", heapWith([]impl.Cell{usedCell(5, 0, -1, 0)}), 0, nil, heapWith([]impl.Cell{made}), 0},
		{"one lost cell with Data 0 and without references", heapWith([]impl.Cell{usedCell(0)}), 0, nil, heapWith([]impl.Cell{made}), 0},
		{"one lost cell with references that are -1", heapWith([]impl.Cell{usedCell(0, -1, -1, -1)}), 0, nil, heapWith([]impl.Cell{made}), 0},
		{"a lost cell with MaxData that refers to a reached one", heapWith([]impl.Cell{usedCell(1, -1), usedCell(99, 0, 0, 0)}, 0), 0, []int{0}, heapWith([]impl.Cell{usedCell(1, -1), made}, 0), 1},
		{"a lost cell at the beginning", heapWith([]impl.Cell{usedCell(1, 1), usedCell(2, -1, 2), usedCell(3)}, 1), 0, []int{1, 2}, heapWith([]impl.Cell{made, usedCell(2, -1, 2), usedCell(3)}, 1), 0},
		{"a lost cell in the middle", heapWith([]impl.Cell{usedCell(1, 2), usedCell(2, -1), usedCell(3)}, 0), 0, []int{0, 2}, heapWith([]impl.Cell{usedCell(1, 2), made, usedCell(3)}, 0), 1},
		{"a lost cell at the end", heapWith([]impl.Cell{usedCell(1, 1), usedCell(2), usedCell(3, -1, -1)}, 0), 0, []int{0, 1}, heapWith([]impl.Cell{usedCell(1, 1), usedCell(2), made}, 0), 2},
		{"a lost cell before a free one", heapWith([]impl.Cell{usedCell(5, 0), none}), 0, nil, heapWith([]impl.Cell{made, none}), 0},
		{"a lost cell between free ones, of which the first one is swept", heapWith([]impl.Cell{none, usedCell(5, 1), none}), 1, nil, heapWith([]impl.Cell{none, made, none}), 1},
		{"the first cell of a lost row", heapWith([]impl.Cell{usedCell(1, 1), usedCell(2, 2), usedCell(3)}), 0, nil, heapWith([]impl.Cell{made, usedCell(2, -1), usedCell(3)}), 0},
		{"the last cell of a lost row", heapWith([]impl.Cell{usedCell(1), usedCell(2, 0), usedCell(3, 1)}), 0, nil, heapWith([]impl.Cell{made, usedCell(2, -1), usedCell(3, -1)}), 0},
		{"a cell of a lost cycle", heapWith([]impl.Cell{usedCell(1, 1), usedCell(2, 2), usedCell(3, 0)}), 0, nil, heapWith([]impl.Cell{made, usedCell(2, -1), usedCell(3, -1)}), 0},
		{"lost cells refer to the taken one", heapWith([]impl.Cell{usedCell(1), usedCell(2, 0, 0, 0), usedCell(3, -1, 0)}), 0, nil, heapWith([]impl.Cell{made, usedCell(2, -1, -1, -1), usedCell(3, -1, -1)}), 0},
		{"lost cells refer to themselves", heapWith([]impl.Cell{usedCell(1), usedCell(2, 1, 1), usedCell(3, -1, -1, 2)}), 0, nil, heapWith([]impl.Cell{made, usedCell(2, -1, -1), usedCell(3, -1, -1, -1)}), 0},
		{"lost cells refer to other lost ones", heapWith([]impl.Cell{usedCell(1), usedCell(2, 2), usedCell(3, -1, 1)}), 0, nil, heapWith([]impl.Cell{made, usedCell(2, -1), usedCell(3, -1, -1)}), 0},
		{"lost cells refer to reached ones", heapWith([]impl.Cell{usedCell(1, 1), usedCell(2), usedCell(3), usedCell(4, 0, 1, 0)}, 0), 0, []int{0, 1}, heapWith([]impl.Cell{usedCell(1, 1), usedCell(2), made, usedCell(4, 0, 1, 0)}, 0), 2},
		{"lost cells refer to all kinds of cells", heapWith([]impl.Cell{usedCell(1), usedCell(2, 2), usedCell(3, 1, 0, 2), usedCell(4, 0, 3, 1)}, 0), 0, []int{0}, heapWith([]impl.Cell{usedCell(1), made, usedCell(3, -1, 0, -1), usedCell(4, 0, -1, -1)}, 0), 1},
		{"reached cells refer to each other and to themselves", heapWith([]impl.Cell{usedCell(1, 2), usedCell(2, 2, -1, 1), usedCell(3, 1)}, -1, 2), 0, []int{1, 2}, heapWith([]impl.Cell{made, usedCell(2, 2, -1, 1), usedCell(3, 1)}, -1, 2), 0},
		{"four roots, and a lost cell between their cells", heapWith([]impl.Cell{usedCell(1), usedCell(2), usedCell(9, 3), usedCell(4), usedCell(5)}, 4, 0, 3, 1), 0, []int{0, 1, 3, 4}, heapWith([]impl.Cell{usedCell(1), usedCell(2), made, usedCell(4), usedCell(5)}, 4, 0, 3, 1), 2},
	}
}

// takesBehindOthers go on at different cells, before which nothing is lost.
func takesBehindOthers() []lazyCase {
	none, made := impl.Cell{}, usedCell(0)
	row := []impl.Cell{usedCell(1), usedCell(2), usedCell(3)}
	gaps := []impl.Cell{none, usedCell(1), none, usedCell(2, 3), none}
	cut := []impl.Cell{none, usedCell(1), none, usedCell(2, -1), none}
	with := func(cells []impl.Cell, number int) []impl.Cell {
		return slices.Concat(cells[:number], []impl.Cell{made}, cells[number+1:])
	}
	return []lazyCase{
		{"At 0, and the first cell is marked", heapWith(row), 0, []int{0}, heapWith(with(row, 1)), 1},
		{"At 1, and the cell before is marked", heapWith(row), 1, []int{0}, heapWith(with(row, 1)), 1},
		{"At 1, the cell before and the cell there are marked", heapWith(row), 1, []int{0, 1}, heapWith(with(row, 2)), 2},
		{"At the last cell, which is lost", heapWith(row), 2, []int{0, 1}, heapWith(with(row, 2)), 2},
		{"At the last cell, which is free", heapWith([]impl.Cell{row[0], row[1], none}, 0, 1), 2, []int{0, 1}, heapWith([]impl.Cell{row[0], row[1], made}, 0, 1), 2},
		{"At a lost cell, and a marked one is behind it", heapWith(row, 2), 1, []int{0, 2}, heapWith(with(row, 1), 2), 1},
		{"At 0, with cells that are not used", heapWith(gaps, 1), 0, []int{1}, heapWith(with(cut, 0), 1), 0},
		{"At 1, behind a cell that is not used", heapWith(gaps, 1), 1, []int{1}, heapWith(with(cut, 2), 1), 2},
		{"At 2, behind a cell that is not used and a reached one", heapWith(gaps, 1), 2, []int{1}, heapWith(with(cut, 2), 1), 2},
		{"At 3, behind two cells that are not used", heapWith(gaps, 1), 3, []int{1}, heapWith(with(gaps, 3), 1), 3},
		{"At 3, and the cell there is marked", heapWith(gaps, 1), 3, []int{1, 3}, heapWith(with(gaps, 4), 1), 4},
		{"At 4, behind two cells that are not used", heapWith(gaps, 1), 4, []int{1, 3}, heapWith(with(gaps, 4), 1), 4},
		{"At 2, and the lost cells behind it refer to each other and to the ones before", heapWith([]impl.Cell{usedCell(1), none, usedCell(3, 3), usedCell(4, 2, 0, 3)}, 0), 2, []int{0}, heapWith([]impl.Cell{usedCell(1), none, made, usedCell(4, -1, 0, -1)}, 0), 2},
	}
}

// takesBesideMarkedLost are takes where marked cells cannot be reached.
func takesBesideMarkedLost() []lazyCase {
	made := usedCell(0)
	return []lazyCase{
		{"a marked lost cell before At refers to the taken one", heapWith([]impl.Cell{usedCell(1, 1, 0), usedCell(2, 0)}), 1, []int{0}, heapWith([]impl.Cell{usedCell(1, 1, 0), made}), 1},
		{"a marked lost cell behind At refers to the taken one", heapWith([]impl.Cell{usedCell(1, 1), usedCell(2, 0, -1, 0)}), 0, []int{1}, heapWith([]impl.Cell{made, usedCell(2, 0, -1, 0)}), 0},
		{"a marked lost cell at At refers to the taken one", heapWith([]impl.Cell{usedCell(1, 1, 0), usedCell(2, 0)}), 0, []int{0}, heapWith([]impl.Cell{usedCell(1, 1, 0), made}), 1},
		{"a marked lost cell before At refers to itself, to the taken one and to another one", heapWith([]impl.Cell{usedCell(1, 0, 1, 2), usedCell(2), usedCell(3, 1)}), 1, []int{0}, heapWith([]impl.Cell{usedCell(1, 0, 1, 2), made, usedCell(3, -1)}), 1},
		{"a marked lost cell between lost ones refers to both", heapWith([]impl.Cell{usedCell(1, 1), usedCell(2, 0, 2), usedCell(3, 0)}), 0, []int{1}, heapWith([]impl.Cell{made, usedCell(2, 0, 2), usedCell(3, -1)}), 0},
		{"lost cells refer to a marked lost one", heapWith([]impl.Cell{usedCell(1), usedCell(2, 0), usedCell(3, 0, 1)}), 0, []int{0}, heapWith([]impl.Cell{usedCell(1), made, usedCell(3, 0, -1)}), 1},
		{"marked lost cells before At refer to a reached one, to each other and to the taken one", heapWith([]impl.Cell{usedCell(1), usedCell(2, 0, 2), usedCell(3, 1, 3), usedCell(4, 2)}, 0), 3, []int{0, 1, 2}, heapWith([]impl.Cell{usedCell(1), usedCell(2, 0, 2), usedCell(3, 1, 3), made}, 0), 3},
		{"lost cells refer to a reached one, to a marked lost one and to a lost one", heapWith([]impl.Cell{usedCell(1), usedCell(2, 2, 3), usedCell(3, 3), usedCell(4, 0, 1, 2)}, 0), 0, []int{0, 1}, heapWith([]impl.Cell{usedCell(1), usedCell(2, 2, 3), made, usedCell(4, 0, 1, -1)}, 0), 2},
		{"cells that were taken are marked and lost", heapWith([]impl.Cell{made, made, usedCell(3, 3, 0, 1), usedCell(4, 1, 2, 3)}), 2, []int{0, 1}, heapWith([]impl.Cell{made, made, made, usedCell(4, 1, -1, -1)}), 2},
	}
}

// takesOfNothing are lazy heaps in which there is no cell to be taken.
func takesOfNothing() []lazyCase {
	none := impl.Cell{}
	row := []impl.Cell{usedCell(1, 1), usedCell(2, 2), usedCell(3, -1, 0)}
	gap := []impl.Cell{none, usedCell(1, 1), none, usedCell(2, 1, 3)}
	var all []lazyCase
	add := func(name string, h impl.Heap, at int, marked ...int) {
		all = append(all, lazyCase{name, h, at, marked, h, -1})
	}
	add("no cells", heapWith(nil), 0)
	add("one reached cell, At 0", heapWith([]impl.Cell{usedCell(5, 0)}, 0), 0, 0)
	add("one reached cell, At behind it", heapWith([]impl.Cell{usedCell(5, 0)}, 0), 1, 0)
	add("one marked lost cell, At 0", heapWith([]impl.Cell{usedCell(5, 0)}), 0, 0)
	add("one marked lost cell, At behind it", heapWith([]impl.Cell{usedCell(5, 0)}), 1, 0)
	add("one free cell, At behind it", heapWith([]impl.Cell{none}), 1)
	add("three free cells, At behind them", heapWith([]impl.Cell{none, none, none}), 3)
	for at := range 4 {
		add("a row that can be reached", heapWith(row, 0), at, 0, 1, 2)
		add("a lost row, all of whose cells are marked", heapWith(row), at, 0, 1, 2)
	}
	add("a free cell before the last one, which is reached", heapWith(gap, 3), 3, 1, 3)
	add("free cells before the last one, which is marked and lost", heapWith(gap, 1), 3, 1, 3)
	add("free cells, At behind the last one", heapWith(gap), 4, 1, 3)
	return all
}

// wideTakes are takes in heaps of MaxCells cells.
func wideTakes() []lazyCase {
	const last = impl.MaxCells - 1
	made, chain, none := usedCell(0), chainOf(impl.MaxCells), make([]impl.Cell, impl.MaxCells)
	loose := slices.Repeat([]impl.Cell{usedCell(1, -1)}, impl.MaxCells)
	cut := slices.Clone(chain)
	for number := range cut {
		cut[number] = usedCell(number, -1)
	}
	return []lazyCase{
		{"MaxCells reached cells, At 0", heapWith(chain, last), 0, rangeOf(0, last), heapWith(chain, last), -1},
		{"MaxCells reached cells, At the last one", heapWith(chain, last), last, rangeOf(0, last), heapWith(chain, last), -1},
		{"MaxCells reached cells, At behind the last one", heapWith(chain, last), impl.MaxCells, rangeOf(0, last), heapWith(chain, last), -1},
		{"MaxCells marked lost cells", heapWith(chain), 20, rangeOf(0, last), heapWith(chain), -1},
		{"MaxCells free cells, At 0", heapWith(none), 0, nil, heapWith(slices.Concat([]impl.Cell{made}, none[1:])), 0},
		{"MaxCells free cells, At the last one", heapWith(none), last, nil, heapWith(slices.Concat(none[1:], []impl.Cell{made})), last},
		{"MaxCells free cells, At behind the last one", heapWith(none), impl.MaxCells, nil, heapWith(none), -1},
		{"MaxCells lost cells in a row", heapWith(chain), 0, nil, heapWith(slices.Concat([]impl.Cell{made}, cut[1:])), 0},
		{"the second half of MaxCells cells in a row is lost", heapWith(chain, 19), 0, rangeOf(0, 19), heapWith(slices.Concat(chain[:20], []impl.Cell{made}, cut[21:]), 19), 20},
		{"the last one of MaxCells cells in a row is lost", heapWith(chain, last-1), 0, rangeOf(0, last-1), heapWith(slices.Concat(chain[:last], []impl.Cell{made}), last-1), last},
		{"the last one of MaxCells cells in a row is lost, At it", heapWith(chain, last-1), last, rangeOf(0, last-1), heapWith(slices.Concat(chain[:last], []impl.Cell{made}), last-1), last},
		{"the first one of MaxCells cells is lost", heapWith(loose), 0, rangeOf(1, last), heapWith(slices.Concat([]impl.Cell{made}, loose[1:])), 0},
	}
}

// allTakes are all written takes.
func allTakes() []lazyCase {
	return slices.Concat(takesOfFreeCells(), takesOfLostCells(), takesBehindOthers(), takesBesideMarkedLost(), takesOfNothing(), wideTakes())
}

// lazy returns the lazy heap of a case.
func (c lazyCase) lazy() impl.Lazy {
	return lazyWith(c.heap, c.at, c.marked...)
}

// wanted returns the lazy heap after LazyTake.
func (c lazyCase) wanted() impl.Lazy {
	if c.taken == -1 {
		return lazyWith(c.want, len(c.heap.Cells), c.marked...)
	}
	return lazyWith(c.want, c.taken+1, append(slices.Clone(c.marked), c.taken)...)
}

// P68: the results of single takes, written out.
func TestOneLazyTake(t *testing.T) {
	for _, c := range allTakes() {
		if !impl.LazyValid(c.lazy()) {
			t.Errorf("%s: LazyValid(%v) = false", c.name, c.lazy())
		}
		if got, taken := impl.LazyTake(c.lazy()); taken != c.taken || !sameLazy(got, c.wanted()) {
			t.Errorf("%s: LazyTake(%v) = %v, %d, not %v, %d", c.name, c.lazy(), got, taken, c.wanted(), c.taken)
		}
		if got := impl.LazyValid(c.wanted()); !got || !impl.SameView(c.heap, c.want) {
			t.Errorf("%s: LazyValid(%v) = %v", c.name, c.wanted(), got)
		}
	}
}

type lazyState struct {
	name string
	lazy impl.Lazy
	want bool
}

// lazyStates are lazy heaps that are valid, and such that are not for one reason.
func lazyStates() []lazyState {
	h := heapWith([]impl.Cell{usedCell(5, 1, -1), usedCell(6, 0), usedCell(7, 1), {}}, 0)
	far := heapWith([]impl.Cell{usedCell(1, 1), usedCell(2, 2), usedCell(3)}, -1, -1, -1, 0)
	other := lazyWith(h, 2, 0, 1)
	with := func(marks ...bool) impl.Lazy { return impl.Lazy{Store: h, Marks: marks} }
	return []lazyState{
		{"the marks of what can be reached", with(true, true, false, false), true},
		{"a lost cell is marked too", with(true, true, true, false), true},
		{"a reached cell that is a root is not marked", with(false, true, false, false), false},
		{"a reached cell to which a root cell refers is not marked", with(true, false, false, false), false},
		{"no cell is marked", with(false, false, false, false), false},
		{"a cell that is not used is marked", with(true, true, false, true), false},
		{"all cells are marked, and one is not used", with(true, true, true, true), false},
		{"no marks", with(), false},
		{"no marks, and no cells", impl.Lazy{Store: heapWith(nil)}, true},
		{"no marks, and one free cell", impl.Lazy{Store: heapWith([]impl.Cell{{}})}, false},
		{"a mark too few", with(true, true, false), false},
		{"a mark too few, for a cell that is used and marked otherwise", lazyWith(heapWith(far.Cells[2:], 0), 0), false},
		{"a mark too many", with(true, true, false, false, false), false},
		{"a mark too many that is true", with(true, true, false, false, true), false},
		{"a mark too many, and no cells", impl.Lazy{Store: heapWith(nil), Marks: []bool{false}}, false},
		{"a cell far from the last root is not marked", lazyWith(far, 0, 0, 1), false},
		{"a cell in the middle is not marked", lazyWith(far, 0, 0, 2), false},
		{"only the cell of the root is marked", lazyWith(far, 0, 0), false},
		{"all cells of a row are marked", lazyWith(far, 0, 0, 1, 2), true},
		{"a marked lost cell refers to one that is not marked", lazyWith(heapWith(far.Cells), 0, 0), true},
		{"At the lost cell", other, true},
		{"At behind a lost cell that is not marked", lazyWith(h, 3, 0, 1), false},
		{"At behind a lost cell that is marked", lazyWith(h, 3, 0, 1, 2), true},
		{"At behind the last cell, which is not used, and a lost one that is not marked", lazyWith(h, 4, 0, 1), false},
		{"At behind the last cell, which is not used", lazyWith(h, 4, 0, 1, 2), true},
		{"At behind the number of cells", lazyWith(h, 5, 0, 1, 2), false},
		{"At -1", lazyWith(h, -1, 0, 1), false},
		{"At 1, and no cells", lazyWith(heapWith(nil), 1), false},
		{"At -1, and no cells", lazyWith(heapWith(nil), -1), false},
		{"a free cell before At is not marked", lazyWith(heapWith([]impl.Cell{{}, usedCell(1)}, 1), 2, 1), true},
		{"a free cell before At is marked", lazyWith(heapWith([]impl.Cell{{}, usedCell(1)}, 1), 2, 0, 1), false},
		{"a free cell behind At is marked", lazyWith(heapWith([]impl.Cell{usedCell(1), {}}, 0), 0, 0, 1), false},
		{"a reached cell before At is not marked", lazyWith(heapWith([]impl.Cell{usedCell(1), usedCell(2)}, 0, 1), 2, 1), false},
		{"the first of two lost cells before At is not marked", lazyWith(heapWith([]impl.Cell{usedCell(1), usedCell(2)}), 2, 1), false},
		{"the second of two lost cells before At is not marked", lazyWith(heapWith([]impl.Cell{usedCell(1), usedCell(2)}), 2, 0), false},
		{"the second of two lost cells is not marked, At it", lazyWith(heapWith([]impl.Cell{usedCell(1), usedCell(2)}), 1, 0), true},
		{"the heap has a root that leads behind the last cell", lazyWith(heapWith([]impl.Cell{usedCell(1)}, 1), 0, 0), false},
		{"a lost cell refers to a free one", lazyWith(heapWith([]impl.Cell{usedCell(1, 1), {}}), 0), false},
		{"the heap has no roots", impl.Lazy{}, false},
	}
}

// P67: single lazy heaps, valid and not, written out.
func TestOneLazyHeap(t *testing.T) {
	for _, c := range lazyStates() {
		if got := impl.LazyValid(c.lazy); got != c.want {
			t.Errorf("%s: LazyValid(%v) = %v", c.name, c.lazy, got)
		}
		if got, taken := impl.LazyTake(c.lazy); !c.want && (taken != -1 || !isNoLazy(got)) {
			t.Errorf("%s: LazyTake(%v) = %v, %d", c.name, c.lazy, got, taken)
		}
	}
}

// P67: reached cells are marked: a valid lazy heap without the mark of a reached cell is invalid, and so it is with a mark more for no cell, or with one less.
func TestMarksOfReachedCells(t *testing.T) {
	removed := 0
	eachValidLazy(func(l impl.Lazy) {
		checkIsLazy(t, l)
		cells := len(l.Marks)
		for _, more := range []bool{false, true} {
			checkNoLazy(t, impl.Lazy{Store: l.Store, Marks: append(slices.Clone(l.Marks), more), At: l.At})
		}
		if cells > 0 {
			checkNoLazy(t, impl.Lazy{Store: l.Store, Marks: l.Marks[:cells-1], At: l.At})
			checkNoLazy(t, impl.Lazy{Store: l.Store, At: l.At})
		}
		for number, reached := range impl.Reachable(l.Store) {
			if !reached {
				continue
			}
			if !l.Marks[number] {
				t.Fatalf("%v is valid, and cell %d can be reached", l, number)
			}
			removed++
			other := copyOfLazy(l)
			other.Marks[number] = false
			checkNoLazy(t, other)
		}
	})
	if removed == 0 {
		t.Error("no cell was reached")
	}
}

// P67: a mark for a cell that is not used makes a lazy heap invalid, wherever the cell is; a mark for a lost cell does not, and without one it is valid as long as the cell is not before At.
func TestMarksOfOtherCells(t *testing.T) {
	unused, marked, late, early := 0, 0, 0, 0
	eachValidLazy(func(l impl.Lazy) {
		reached := reachableOf(l.Store)
		other := copyOfLazy(l)
		for number, c := range l.Store.Cells {
			if reached[number] {
				continue
			}
			other.Marks[number] = !l.Marks[number]
			switch {
			case !c.Used:
				unused++
				checkNoLazy(t, other)
			case !l.Marks[number]:
				marked++
				checkIsLazy(t, other)
			case number >= l.At:
				late++
				checkIsLazy(t, other)
			default:
				early++
				checkNoLazy(t, other)
			}
			other.Marks[number] = l.Marks[number]
		}
	})
	if unused == 0 || marked == 0 || late == 0 || early == 0 {
		t.Errorf("%d marks for cells that are not used and %d for lost ones were put, and of lost ones %d behind At and %d before it were taken away", unused, marked, late, early)
	}
}

// P67: At is in 0..n, and not behind a used cell that is not marked.
func TestEveryAt(t *testing.T) {
	valid, others := 0, 0
	eachValidLazy(func(l impl.Lazy) {
		if l.At != 0 {
			return // it is looked at with the same marks and At 0
		}
		last := firstLost(l.Store, l.Marks)
		for l.At = -2; l.At <= len(l.Marks)+2; l.At++ {
			if l.At >= 0 && l.At <= last {
				valid++
				checkIsLazy(t, l)
			} else {
				others++
				checkNoLazy(t, l)
			}
		}
	})
	if valid == 0 || others == 0 {
		t.Errorf("%d are valid, and %d are not", valid, others)
	}
}

// checkCut fails unless a cell after a take is as before, but for references of a cell that is not marked to such cells, which are -1.
func checkCut(t *testing.T, before impl.Lazy, number int, after impl.Cell) {
	t.Helper()
	want := before.Store.Cells[number]
	if !before.Marks[number] {
		want.Refs = slices.Clone(want.Refs)
		for place, target := range want.Refs {
			if target != -1 && !before.Marks[target] {
				want.Refs[place] = -1
			}
		}
	}
	if !sameCell(after, want) {
		t.Fatalf("after a take from %v cell %d is %v, not %v", before, number, after, want)
	}
}

// checkTaken takes a cell from a valid lazy heap, and fails unless it is the first one from At on that was not marked, was lost or free, and is new, all other cells are as they were but for references between lost ones, sweeping goes on behind it, and a program sees the same. Without one the heap and the marks are the same.
func checkTaken(t *testing.T, l impl.Lazy) (impl.Lazy, int) {
	t.Helper()
	next, taken := impl.LazyTake(l)
	checkIsLazy(t, next)
	if !slices.Equal(next.Store.Roots, l.Store.Roots) || len(next.Store.Cells) != len(l.Store.Cells) {
		t.Fatalf("LazyTake(%v) = %v, %d", l, next, taken)
	}
	if !impl.SameView(next.Store, l.Store) || !slices.Equal(viewOf(next.Store), viewOf(l.Store)) || !slices.Equal(reachableOf(next.Store), reachableOf(l.Store)) {
		t.Fatalf("LazyTake(%v) = %v, %d, and a program sees %v", l, next, taken, viewOf(next.Store))
	}
	if first := slices.Index(l.Marks[l.At:], false); first == -1 {
		if taken != -1 || next.At != len(l.Marks) || !slices.Equal(next.Marks, l.Marks) || !sameHeap(next.Store, l.Store) {
			t.Fatalf("LazyTake(%v) = %v, %d, and there is no cell", l, next, taken)
		}
		return next, taken
	} else if taken != l.At+first || next.At != taken+1 {
		t.Fatalf("LazyTake(%v) = %v, %d, not %d", l, next, taken, l.At+first)
	}
	if l.Marks[taken] || reachableOf(l.Store)[taken] {
		t.Fatalf("LazyTake(%v) = %v, %d, and this cell was marked or could be reached", l, next, taken)
	}
	for number, c := range next.Store.Cells {
		if next.Marks[number] != (l.Marks[number] || number == taken) {
			t.Fatalf("LazyTake(%v) = %v, %d", l, next, taken)
		}
		if number == taken && !sameCell(c, usedCell(0)) {
			t.Fatalf("LazyTake(%v) = %v, %d, and the cell is not new", l, next, taken)
		}
		if number != taken {
			checkCut(t, l, number, c)
		}
	}
	return next, taken
}

// P68: taken cells were lost or free: the cell was not marked, and a program sees the same; the next cell that is taken has a greater number.
func TestTakenCellsWereLostOrFree(t *testing.T) {
	lost, free, again, ended := 0, 0, 0, 0
	eachValidLazy(func(l impl.Lazy) {
		next, taken := checkTaken(t, l)
		if taken == -1 {
			ended++
			return
		}
		if l.Store.Cells[taken].Used {
			lost++
		} else {
			free++
		}
		if _, second := checkTaken(t, next); second != -1 {
			again++
			if second <= taken {
				t.Fatalf("from %v the cells %d and %d are taken", l, taken, second)
			}
		}
	})
	if lost == 0 || free == 0 || again == 0 || ended == 0 {
		t.Errorf("%d lost and %d free cells were taken, in %d lazy heaps a further one and in %d none", lost, free, again, ended)
	}
}

// P68: after a take no lost cell that is not marked leads to the new cell, nor to another one that is not marked.
func TestNothingLostLeadsToTakenCells(t *testing.T) {
	cut := 0
	eachValidLazy(func(l impl.Lazy) {
		next, taken := impl.LazyTake(l)
		if taken == -1 {
			return
		}
		for number, c := range next.Store.Cells {
			if next.Marks[number] {
				continue
			}
			for place, target := range c.Refs {
				if target == taken || target != -1 && !next.Marks[target] {
					t.Fatalf("LazyTake(%v) = %v, %d, and cell %d leads to %d", l, next, taken, number, target)
				}
				if target != l.Store.Cells[number].Refs[place] {
					cut++
				}
			}
		}
	})
	if cut == 0 {
		t.Error("no reference became -1")
	}
}

// takeAll takes cells from a lazy heap until there is none, with checks, and returns the lazy heap then and the cells.
func takeAll(t *testing.T, l impl.Lazy) (impl.Lazy, []int) {
	t.Helper()
	var all []int
	for range impl.MaxCells + 1 {
		next, taken := checkTaken(t, l)
		l = next
		if taken == -1 {
			return l, all
		}
		all = append(all, taken)
	}
	t.Fatalf("from %v more than MaxCells cells were taken", l)
	return l, all
}

// checkAllTaken fails unless from LazyStart on exactly the cells that cannot be reached are taken, in ascending order, and no lost cell is left then: the reached cells are as they were, all others are new, and all are marked. It returns how many were taken.
func checkAllTaken(t *testing.T, h impl.Heap) int {
	t.Helper()
	reached, want := impl.Reachable(h), []int(nil)
	swept, freed := impl.CollectSweep(h)
	for number := range reached {
		if !reached[number] {
			want = append(want, number)
			swept.Cells[number] = usedCell(0)
		}
	}
	l, taken := takeAll(t, impl.LazyStart(h))
	if !slices.Equal(taken, want) {
		t.Fatalf("from LazyStart(%v) on the cells %v were taken, not %v", h, taken, want)
	}
	if !sameHeap(l.Store, swept) || slices.Contains(l.Marks, false) || l.At != len(l.Marks) {
		t.Fatalf("after the cells %v were taken %v is %v", taken, h, l)
	}
	// What was taken is in use, although no root leads to it yet; no other cell is used without being reached.
	if leaked := impl.LeakedCells(l.Store); !slices.Equal(leaked, taken) || len(taken) < freed {
		t.Fatalf("after the cells %v were taken %v is %v, with %v leaked", taken, h, l, leaked)
	}
	if again, none := impl.LazyTake(l); none != -1 || !sameLazy(again, l) {
		t.Fatalf("LazyTake(%v) = %v, %d", l, again, none)
	}
	return len(taken)
}

// P127: lazy sweeping finds everything: from LazyStart on as many cells can be taken, one after the other, as cannot be reached; then no lost cell is left.
func TestLazySweepingFindsEverything(t *testing.T) {
	all, some, none := 0, 0, 0
	check := func(h impl.Heap) {
		_, live := impl.UsedCells(h)
		switch many := checkAllTaken(t, h); {
		case many != len(h.Cells)-live:
			t.Fatalf("from LazyStart(%v) on %d cells were taken, and %d can be reached", h, many, live)
		case many == 0:
			none++
		case live == 0:
			all++
		default:
			some++
		}
	}
	eachUnswept(check)
	for _, c := range someLeaks() {
		check(c.heap)
	}
	for _, c := range slices.Concat(reachedCycles(), lostCycles(), cyclesWithLostCells(), cyclesWithOthers(), wideCycles()) {
		check(c.heap)
	}
	if all == 0 || some == 0 || none == 0 {
		t.Errorf("all cells were taken from %d heaps, some from %d, and none from %d", all, some, none)
	}
}

// P127: the cells that are taken from single heaps, and what is left then, written out, also if the cells stand in another order.
func TestOneLazySweep(t *testing.T) {
	check := func(name string, h, swept impl.Heap, reached []int) {
		want, taken := copyOf(swept), []int(nil)
		for number := range h.Cells {
			if !slices.Contains(reached, number) {
				want.Cells[number] = usedCell(0)
				taken = append(taken, number)
			}
		}
		got, all := takeAll(t, impl.LazyStart(h))
		if !slices.Equal(all, taken) || !sameLazy(got, lazyWith(want, len(h.Cells), rangeOf(0, len(h.Cells)-1)...)) {
			t.Fatalf("%s: from %v %v were taken, not %v, and %v is left", name, h, all, taken, got)
		}
	}
	for _, c := range slices.Concat(sweepsOfFew(), sweepsOfSome(), wideSweeps()) {
		cells := len(c.heap.Cells)
		check(c.name, c.heap, c.want, c.marks)
		if cells > 5 {
			continue
		}
		eachOrder(cells, func(at []int) {
			var reached []int
			for _, number := range c.marks {
				reached = append(reached, at[number])
			}
			check(c.name, placed(c.heap, cells, at), placed(c.want, cells, at), reached)
		})
	}
}

// P68, P127: every state of one lazy sweep, from LazyStart on, written out.
func TestEveryStateOfALazySweep(t *testing.T) {
	made := usedCell(0)
	first, second := usedCell(1, 3, -1), usedCell(4, 1)
	l := impl.LazyStart(heapWith([]impl.Cell{{}, first, usedCell(9, 4, 1, 2), second, usedCell(8, 2, 5, 3), usedCell(7, 4), {}}, 1, -1, 3))
	states := []struct {
		taken int
		cells []impl.Cell
		at    int
		marks []int
	}{
		{0, []impl.Cell{made, first, usedCell(9, -1, 1, -1), second, usedCell(8, -1, -1, 3), usedCell(7, -1), {}}, 1, []int{0, 1, 3}},
		{2, []impl.Cell{made, first, made, second, usedCell(8, -1, -1, 3), usedCell(7, -1), {}}, 3, []int{0, 1, 2, 3}},
		{4, []impl.Cell{made, first, made, second, made, usedCell(7, -1), {}}, 5, []int{0, 1, 2, 3, 4}},
		{5, []impl.Cell{made, first, made, second, made, made, {}}, 6, []int{0, 1, 2, 3, 4, 5}},
		{6, []impl.Cell{made, first, made, second, made, made, made}, 7, []int{0, 1, 2, 3, 4, 5, 6}},
		{-1, []impl.Cell{made, first, made, second, made, made, made}, 7, []int{0, 1, 2, 3, 4, 5, 6}},
		{-1, []impl.Cell{made, first, made, second, made, made, made}, 7, []int{0, 1, 2, 3, 4, 5, 6}},
	}
	for k, s := range states {
		next, taken := impl.LazyTake(l)
		if want := lazyWith(heapWith(s.cells, 1, -1, 3), s.at, s.marks...); taken != s.taken || !sameLazy(next, want) {
			t.Fatalf("take %d: LazyTake(%v) = %v, %d, not %v, %d", k, l, next, taken, want, s.taken)
		}
		l = next
	}
}

// P68, P127: every one of MaxCells cells can be the only one that is taken, lost or free, and the only one that is not; from every At on all cells behind it are taken.
func TestEveryCellIsTaken(t *testing.T) {
	loose := slices.Repeat([]impl.Cell{usedCell(7, -1)}, impl.MaxCells)
	for number := range impl.MaxCells {
		for _, c := range []impl.Cell{{}, usedCell(9, number, -1), usedCell(0)} {
			cells := slices.Clone(loose)
			cells[number] = c
			marks := slices.Repeat([]bool{true}, impl.MaxCells)
			marks[number] = false
			want := heapWith(slices.Concat(loose[:number], []impl.Cell{usedCell(0)}, loose[number+1:]))
			for at := range number + 1 {
				got, taken := impl.LazyTake(impl.Lazy{Store: heapWith(cells), Marks: marks, At: at})
				if taken != number || !sameLazy(got, lazyWith(want, number+1, rangeOf(0, impl.MaxCells-1)...)) {
					t.Fatalf("At %d the cell %d is taken, not %d, and %v is left", at, taken, number, got)
				}
			}
		}
		if many := checkAllTaken(t, heapWith(loose, number)); many != impl.MaxCells-1 {
			t.Fatalf("with the root %d %d cells were taken", number, many)
		}
		l := lazyWith(heapWith(loose), number, rangeOf(0, number-1)...)
		if _, taken := takeAll(t, l); !slices.Equal(taken, rangeOf(number, impl.MaxCells-1)) {
			t.Fatalf("At %d the cells %v were taken", number, taken)
		}
		free := lazyWith(heapWith(make([]impl.Cell, impl.MaxCells)), number)
		if _, taken := takeAll(t, free); !slices.Equal(taken, rangeOf(number, impl.MaxCells-1)) {
			t.Fatalf("At %d the cells %v were taken", number, taken)
		}
	}
}

// P68: a reference of every cell to every cell becomes -1 exactly if both are not marked.
func TestEveryReferenceOfLostCells(t *testing.T) {
	for _, cells := range []int{2, 3, 31, 32, 33, impl.MaxCells} {
		for from := 1; from < cells; from++ {
			for to := range cells {
				list := slices.Repeat([]impl.Cell{usedCell(7)}, cells)
				list[from] = usedCell(7, -1, to)
				checkTaken(t, lazyWith(heapWith(list), 0))
				checkTaken(t, lazyWith(heapWith(list), 0, to))
				checkTaken(t, lazyWith(heapWith(list), 0, from))
				checkTaken(t, lazyWith(heapWith(list, to), 0, to))
				checkTaken(t, lazyWith(heapWith(list, -1, from), 0, from, to))
			}
		}
	}
}

// lazyStep executes a valid instruction in a valid lazy heap as a program does that takes its cells from there; if none is left, it is marked anew. It reports whether there was a cell for OpNew.
func lazyStep(t *testing.T, l impl.Lazy, o impl.Command) (impl.Lazy, bool) {
	t.Helper()
	if o.Op != impl.OpNew {
		l.Store, _ = impl.StepHeap(l.Store, o)
		return l, true
	}
	next, taken := checkTaken(t, l)
	if taken == -1 {
		next, taken = checkTaken(t, impl.LazyStart(next.Store))
	}
	if taken == -1 {
		return next, false
	}
	next.Store.Cells[taken] = usedCell(o.C, manyOf(-1, o.B)...)
	next.Store.Roots[o.A] = taken
	return next, true
}

// P68, P127: programs run in lazy heaps with every number of cells: they see the same as without freeing, and come to their end exactly if there is always a cell beside those that can be reached.
func TestProgramsInLazyHeaps(t *testing.T) {
	ended, stopped, kept := 0, 0, 0
	for turn, list := range longPrograms() {
		for _, limit := range []int{1, 2, 3, 4, 5, 8, 1 + turn%impl.MaxCells, impl.MaxCells} {
			l, all, ok := impl.LazyStart(heapWith(make([]impl.Cell, limit))), impl.EmptyHeap(), true
			for _, o := range list {
				if l, ok = lazyStep(t, l, o); !ok {
					break
				}
				all, _ = impl.StepHeap(all, o)
				checkIsLazy(t, l)
				checkLazy(t, l)
				if !impl.SameView(l.Store, all) || !slices.Equal(viewOf(l.Store), viewOf(all)) {
					t.Fatalf("with %d cells %v shows %v", limit, list, l)
				}
				// Every cell that can be reached is marked: if the marks are others, a lost cell is marked too.
				if !slices.Equal(l.Marks, reachableOf(l.Store)) {
					kept++
				}
			}
			if ok != (limit >= leastLimitOf(list)) {
				t.Fatalf("with %d cells %v comes to its end: %v", limit, list, ok)
			}
			if ok {
				ended++
			} else {
				stopped++
			}
		}
	}
	if ended == 0 || stopped == 0 || kept == 0 {
		t.Errorf("%d programs came to their end, %d did not, and in %d lazy heaps marked cells were lost", ended, stopped, kept)
	}
}

// P66, P67: heaps that are invalid in any way have no lazy heap, and a lazy heap with one of them is invalid and has no cell to be taken, whatever the marks and At are.
func TestLazySweepingOfInvalidHeaps(t *testing.T) {
	for _, h := range invalidHeaps() {
		cells := len(h.Cells)
		checkNoLazyStart(t, h)
		for _, marks := range [][]bool{nil, {}, make([]bool, cells), usedFlags(h), slices.Repeat([]bool{true}, cells), make([]bool, cells+1)} {
			for _, at := range []int{-1, 0, 1, cells - 1, cells, cells + 1} {
				checkNoLazy(t, impl.Lazy{Store: h, Marks: marks, At: at})
			}
		}
	}
}

// TestLazySweepingOfOtherTargets: with a root or a reference to anything that is no used cell, wherever it stands, and even in a cell that would be taken, there are no results.
func TestLazySweepingOfOtherTargets(t *testing.T) {
	for _, h := range wideHeaps() {
		targets := append([]int{len(h.Cells)}, oddTargets...)
		if unused := slices.Index(usedFlags(h), false); unused != -1 {
			targets = append(targets, unused)
		}
		other, reached, used := copyOf(h), reachableOf(h), usedFlags(h)
		checkIsLazy(t, impl.Lazy{Store: other, Marks: reached})
		checkIsLazy(t, impl.Lazy{Store: other, Marks: used, At: len(h.Cells)})
		eachPlace(other, func(place *int) {
			before := *place
			for _, target := range targets {
				*place = target
				checkNoLazyStart(t, other)
				checkNoLazy(t, impl.Lazy{Store: other, Marks: reached})
				checkNoLazy(t, impl.Lazy{Store: other, Marks: used, At: len(h.Cells)})
			}
			*place = before
		})
	}
}

// P67: there is a mark for every cell: with no marks, or with fewer or more than there are cells, a lazy heap is invalid, whatever they are.
func TestLazyMarksForOtherNumbersOfCells(t *testing.T) {
	for _, h := range validHeapsOfAllSizes() {
		for _, l := range []impl.Lazy{{Store: h, Marks: reachableOf(h)}, {Store: h, Marks: usedFlags(h), At: len(h.Cells)}} {
			checkIsLazy(t, l)
			eachOtherLength(l.Marks, func(marks []bool) {
				checkNoLazy(t, impl.Lazy{Store: h, Marks: marks, At: l.At})
			})
		}
	}
}

// oddAts are numbers at which no cell and no end of a heap is, among them such whose last bits would do.
var oddAts = []int{-1, -2, -40, -41, -63, -64, -128, -256, -1 << 31, -1 << 32, math.MinInt, math.MinInt + 1, math.MinInt + 40, 41, 42, 63, 64, 65, 128, 256, 1 << 16, 1 << 31, 1 << 32, 1<<32 + 1, math.MaxInt - 63, math.MaxInt - 1, math.MaxInt}

// P67: with At below 0 or above the number of cells a lazy heap is invalid, also where no cell is used, and where there is no cell.
func TestOtherAts(t *testing.T) {
	for _, h := range validHeapsOfAllSizes() {
		cells := len(h.Cells)
		for _, marks := range [][]bool{reachableOf(h), usedFlags(h)} {
			l := impl.Lazy{Store: h, Marks: marks}
			checkIsLazy(t, l)
			for _, at := range slices.Concat([]int{cells + 1, cells + 2, cells + 64, cells - 64, cells + 1<<32, cells - 1<<32, -cells - 1, math.MinInt + cells, ^cells}, oddAts) {
				l.At = at
				checkNoLazy(t, l)
			}
		}
	}
}

// checkLazyOf compares the functions of the chapter with their definitions, for a heap that may be valid or not, with some marks and with At.
func checkLazyOf(t *testing.T, h impl.Heap, at int) {
	t.Helper()
	cells := len(h.Cells)
	checkLazyStart(t, h)
	all := [][]bool{nil, make([]bool, cells), usedFlags(h), slices.Repeat([]bool{true}, cells), make([]bool, cells+1)}
	if validHeap(h) {
		all = append(all, reachableOf(h))
	}
	for _, marks := range all {
		checkLazy(t, impl.Lazy{Store: h, Marks: marks, At: at})
	}
}

// TestLazySweepingReturnsForAllNumbers: for every number of a root, a reference, Data or At, and for every length, the functions return what the chapter gives.
func TestLazySweepingReturnsForAllNumbers(t *testing.T) {
	numbers := manyNumbers()
	few := heapWith([]impl.Cell{usedCell(0, 0), {}, usedCell(99, -1, 2, 0)}, 0, -1, 2)
	for _, h := range []impl.Heap{copyOf(few), trialHeap(), heapWith(nil), heapWith(chainOf(impl.MaxCells)), mixedHeap(impl.MaxCells, 1)} {
		for _, at := range numbers {
			checkLazyOf(t, h, at)
		}
	}
	for _, h := range []impl.Heap{copyOf(few), trialHeap()} {
		change := func(place *int) {
			before := *place
			for _, number := range numbers {
				*place = number
				checkLazyOf(t, h, 0)
				checkLazyOf(t, h, len(h.Cells))
			}
			*place = before
		}
		eachPlace(h, change)
		for number := range h.Cells {
			change(&h.Cells[number].Data)
		}
	}
	for many := range 140 {
		for _, at := range []int{0, 1, many / 2, many} {
			checkLazyOf(t, heapWith(make([]impl.Cell, many)), at)
			checkLazyOf(t, heapWith(slices.Repeat([]impl.Cell{usedCell(1, 0)}, many)), at)
			checkLazyOf(t, heapWith(chainOf(many), many-1), at)
		}
		checkLazyOf(t, heapWith([]impl.Cell{usedCell(0, manyOf(0, many)...)}), 0)
		checkLazyOf(t, impl.Heap{Cells: []impl.Cell{usedCell(0)}, Roots: manyOf(0, many)}, 1)
		checkLazyOf(t, impl.Heap{Cells: []impl.Cell{usedCell(0)}, Roots: manyOf(-1, many)}, 0)
	}
	checkLazyOf(t, heapWith(slices.Repeat([]impl.Cell{usedCell(1, 0)}, 100000), 0), 100000)
}

// TestLazySweepingOfExtremeNumbers: for lazy heaps whose numbers are all very large or very small the functions return what the chapter gives.
func TestLazySweepingOfExtremeNumbers(t *testing.T) {
	extremes := []int{math.MinInt, math.MinInt + 1, -1 << 32, -2, -1, 0, 1, 2, 1 << 32, math.MaxInt - 1, math.MaxInt}
	for _, x := range extremes {
		for _, y := range extremes {
			for _, at := range extremes {
				for _, used := range []bool{false, true} {
					c := impl.Cell{Used: used, Data: x, Refs: []int{y}}
					checkLazyOf(t, heapWith([]impl.Cell{c}, x), at)
					checkLazyOf(t, heapWith([]impl.Cell{c, usedCell(0, 0)}, -1, y), at)
					checkLazyOf(t, heapWith([]impl.Cell{usedCell(0), c}, 0), at)
				}
				checkNoLazy(t, impl.Lazy{Store: impl.Heap{Roots: []int{x, y}}, At: at})
			}
		}
	}
}

// P66, P67, P68: nil and empty slices are the same.
func TestNilAndEmptySlicesOfLazySweeping(t *testing.T) {
	for _, cells := range [][]impl.Cell{nil, {}} {
		checkBegins(t, heapWith(cells), nil)
		for _, marks := range [][]bool{nil, {}} {
			l := impl.Lazy{Store: heapWith(cells), Marks: marks}
			checkIsLazy(t, l)
			if got, taken := impl.LazyTake(l); taken != -1 || !sameLazy(got, l) {
				t.Fatalf("LazyTake(%v) = %v, %d", l, got, taken)
			}
		}
	}
	for _, refs := range [][]int{nil, {}} {
		h := heapWith([]impl.Cell{{Refs: refs}, {Used: true, Refs: refs}, usedCell(1, 1, 2)}, 1)
		checkBegins(t, h, []bool{false, true, false})
		checkLazy(t, impl.LazyStart(h))
		if many := checkAllTaken(t, h); many != 2 {
			t.Fatalf("from %v %d cells were taken", h, many)
		}
	}
}

// TestLazyHeapsThatShareMemory: the slices of a heap may be the same ones; nevertheless only references of lost cells to lost ones become -1.
func TestLazyHeapsThatShareMemory(t *testing.T) {
	refs := []int{1, -1, 3, -1}
	cells := []impl.Cell{usedCell(1, refs[:3]...), usedCell(2, refs[:3]...), usedCell(3, refs[1:]...), usedCell(4, refs[:3]...)}
	for _, h := range []impl.Heap{{Cells: cells, Roots: refs}, heapWith(cells, 0), heapWith(cells, 1), heapWith(cells, 2), heapWith(cells)} {
		before := copyOf(h)
		checkLazyStart(t, h)
		checkAllTaken(t, h)
		for _, marks := range marksFor(h) {
			for at := range len(cells) + 1 {
				checkLazy(t, impl.Lazy{Store: h, Marks: marks, At: at})
			}
		}
		if !sameHeap(h, before) {
			t.Fatalf("%v became %v", before, h)
		}
	}
	got, taken := impl.LazyTake(lazyWith(heapWith(cells, 1), 0, 1, 3))
	want := heapWith([]impl.Cell{usedCell(0), usedCell(2, 1, -1, 3), usedCell(3, -1, 3, -1), usedCell(4, 1, -1, 3)}, 1)
	if taken != 0 || !sameHeap(got.Store, want) {
		t.Fatalf("LazyTake = %v, %d", got, taken)
	}
}

// overwriteLazy overwrites all slices of a result with their spare capacity, and fails if two of them share memory.
func overwriteLazy(t *testing.T, l impl.Lazy) {
	t.Helper()
	overwriteHeap(t, l.Store)
	overwrite(l.Marks[:cap(l.Marks)])
}

// checkLazySharesNothing fails if the functions of the chapter change an argument or the spare capacity of its slices, or if overwriting their results, with the spare capacity, changes an argument or another result.
func checkLazySharesNothing(t *testing.T, l impl.Lazy) {
	t.Helper()
	s := spareOf(l.Store)
	whole := slices.Concat(l.Marks, []bool{true, false, true})
	given := impl.Lazy{Store: s.heap, Marks: whole[:len(l.Marks)], At: l.At}
	before, beforeMarks := s.state(), slices.Clone(whole)
	checkUnchanged := func() {
		t.Helper()
		if !slices.Equal(s.state(), before) || !slices.Equal(whole, beforeMarks) {
			t.Fatalf("%v with %v became %v with %v", l, beforeMarks, given, whole)
		}
	}
	valid := impl.LazyValid(given)
	start, otherStart := impl.LazyStart(s.heap), impl.LazyStart(s.heap)
	next, taken := impl.LazyTake(given)
	other, _ := impl.LazyTake(given)
	checkUnchanged()
	wantStart, wantNext := copyOfLazy(start), copyOfLazy(next)
	overwriteLazy(t, start)
	checkUnchanged()
	if !sameLazy(next, wantNext) || !sameLazy(otherStart, wantStart) {
		t.Fatalf("results of %v share memory", l)
	}
	overwriteLazy(t, next)
	checkUnchanged()
	if !sameLazy(other, wantNext) || !sameLazy(otherStart, wantStart) {
		t.Fatalf("results of %v share memory", l)
	}
	again, number := impl.LazyTake(given)
	if number != taken || !sameLazy(again, wantNext) || !sameLazy(impl.LazyStart(s.heap), wantStart) || impl.LazyValid(given) != valid {
		t.Fatalf("results of %v share memory", l)
	}
}

// TestLazySweepingSharesNothing: no argument changes, valid or not, whether a cell is taken or the heap is returned unchanged, not even when the results are overwritten, and neither does another result.
func TestLazySweepingSharesNothing(t *testing.T) {
	check := func(h impl.Heap) {
		for _, marks := range lazyMarksFor(h) {
			for _, at := range atsFor(h, marks) {
				checkLazySharesNothing(t, impl.Lazy{Store: h, Marks: marks, At: at})
			}
		}
	}
	eachHeapOf(2, 2, 1, check)
	eachHeapOf(3, 1, 1, check)
	for _, h := range validHeapsOfAllSizes() {
		check(h)
	}
	for _, h := range invalidHeaps() {
		checkLazySharesNothing(t, impl.Lazy{Store: h, Marks: usedFlags(h)})
	}
	for _, c := range allTakes() {
		checkLazySharesNothing(t, c.lazy())
		checkLazySharesNothing(t, c.wanted())
	}
	for _, c := range lazyStates() {
		checkLazySharesNothing(t, c.lazy)
	}
}

// TestLaterTakesChangeNothing: the lazy heaps before and after every take stay as they are while cells are taken further, also if two go on from the same one, and so does the heap with which they began.
func TestLaterTakesChangeNothing(t *testing.T) {
	for _, h := range slices.Concat(validHeapsOfAllSizes(), oneUnused()) {
		before := copyOf(h)
		l := impl.LazyStart(h)
		all, states := []impl.Lazy{l}, []impl.Lazy{copyOfLazy(l)}
		for {
			aside, _ := impl.LazyTake(l)
			next, taken := impl.LazyTake(l)
			all, states = append(all, aside, next), append(states, copyOfLazy(aside), copyOfLazy(next))
			l = next
			if taken == -1 {
				break
			}
			impl.LazyTake(aside)
		}
		for k := range all {
			if !sameLazy(all[k], states[k]) {
				t.Fatalf("while cells were taken %v became %v", states[k], all[k])
			}
		}
		if !sameHeap(h, before) {
			t.Fatalf("%v became %v", before, h)
		}
	}
}
