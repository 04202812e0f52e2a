package tests

import (
	"math"
	"slices"
	"testing"

	"loop.example/memorymanagers/impl"
)

// usedCell returns a used cell with Data and references.
func usedCell(data int, refs ...int) impl.Cell {
	return impl.Cell{Used: true, Data: data, Refs: refs}
}

// rootsOf returns as many roots as a heap has: these, and -1 behind them.
func rootsOf(first ...int) []int {
	roots := slices.Clone(first)
	for len(roots) < impl.MaxRoots {
		roots = append(roots, -1)
	}
	return roots
}

// heapWith returns a heap with cells whose first roots are these.
func heapWith(cells []impl.Cell, first ...int) impl.Heap {
	return impl.Heap{Cells: cells, Roots: rootsOf(first...)}
}

// copyOf returns a heap that shares no memory with the given one.
func copyOf(h impl.Heap) impl.Heap {
	other := impl.Heap{Cells: slices.Clone(h.Cells), Roots: slices.Clone(h.Roots)}
	for k := range other.Cells {
		other.Cells[k].Refs = slices.Clone(other.Cells[k].Refs)
	}
	return other
}

// isTarget reports whether a number is -1 or that of a used cell, from the definition.
func isTarget(h impl.Heap, number int) bool {
	if number < 0 || number >= len(h.Cells) {
		return number == -1
	}
	return h.Cells[number].Used
}

// validHeap is what HeapValid must return, from its definition, with the numbers of the document.
func validHeap(h impl.Heap) bool {
	valid := len(h.Cells) <= 40 && len(h.Roots) == 4
	for _, c := range h.Cells {
		if c.Used {
			valid = valid && 0 <= c.Data && c.Data <= 99 && len(c.Refs) <= 3
		} else {
			valid = valid && c.Data == 0 && len(c.Refs) == 0
		}
		for _, number := range c.Refs {
			valid = valid && isTarget(h, number)
		}
	}
	for _, number := range h.Roots {
		valid = valid && isTarget(h, number)
	}
	return valid
}

// reachableOf is what Reachable must return for a valid heap, from its definition: in as many rounds as there are cells every reached cell tells to which ones it refers.
func reachableOf(h impl.Heap) []bool {
	reached := make([]bool, len(h.Cells))
	tell := func(numbers []int) {
		for _, number := range numbers {
			if number != -1 {
				reached[number] = true
			}
		}
	}
	tell(h.Roots)
	for range h.Cells {
		for number, c := range h.Cells {
			if reached[number] {
				tell(c.Refs)
			}
		}
	}
	return reached
}

// leadingTo counts the roots and references of a heap that are a number.
func leadingTo(h impl.Heap, number int) int {
	count := 0
	look := func(numbers []int) {
		for _, target := range numbers {
			if target == number {
				count++
			}
		}
	}
	look(h.Roots)
	for _, c := range h.Cells {
		look(c.Refs)
	}
	return count
}

// refCountsOf is what RefCounts must return for a valid heap, from its definition.
func refCountsOf(h impl.Heap) []int {
	counts := make([]int, len(h.Cells))
	for number := range counts {
		counts[number] = leadingTo(h, number)
	}
	return counts
}

// usedCellsOf is what UsedCells must return for a valid heap, from its definition.
func usedCellsOf(h impl.Heap) (int, int) {
	used, live := 0, 0
	for number, reached := range reachableOf(h) {
		if h.Cells[number].Used {
			used++
		}
		if reached {
			live++
		}
	}
	return used, live
}

// checkValidHeap compares all functions of the chapter with their definitions for a valid heap.
func checkValidHeap(t *testing.T, h impl.Heap) {
	t.Helper()
	if !impl.HeapValid(h) {
		t.Fatalf("HeapValid(%v) = false", h)
	}
	if got, want := impl.Reachable(h), reachableOf(h); !slices.Equal(got, want) {
		t.Fatalf("Reachable(%v) = %v, not %v", h, got, want)
	}
	wantUsed, wantLive := usedCellsOf(h)
	if used, live := impl.UsedCells(h); used != wantUsed || live != wantLive {
		t.Fatalf("UsedCells(%v) = %d, %d, not %d, %d", h, used, live, wantUsed, wantLive)
	}
	if got, want := impl.RefCounts(h), refCountsOf(h); !slices.Equal(got, want) {
		t.Fatalf("RefCounts(%v) = %v, not %v", h, got, want)
	}
}

// checkInvalidHeap fails unless all functions of the chapter return what it gives for invalid heaps.
func checkInvalidHeap(t *testing.T, h impl.Heap) {
	t.Helper()
	if impl.HeapValid(h) {
		t.Fatalf("HeapValid(%v) = true", h)
	}
	if got := impl.Reachable(h); len(got) != 0 {
		t.Fatalf("Reachable(%v) = %v", h, got)
	}
	if used, live := impl.UsedCells(h); used != -1 || live != -1 {
		t.Fatalf("UsedCells(%v) = %d, %d", h, used, live)
	}
	if got := impl.RefCounts(h); len(got) != 0 {
		t.Fatalf("RefCounts(%v) = %v", h, got)
	}
}

// checkHeap checks a heap that may be valid or not.
func checkHeap(t *testing.T, h impl.Heap) {
	t.Helper()
	if validHeap(h) {
		checkValidHeap(t, h)
	} else {
		checkInvalidHeap(t, h)
	}
}

// targetLists returns all lists of up to a number of these targets.
func targetLists(targets []int, longest int) [][]int {
	all, last := [][]int{{}}, [][]int{{}}
	for range longest {
		var longer [][]int
		for _, list := range last {
			for _, target := range targets {
				longer = append(longer, slices.Concat(list, []int{target}))
			}
		}
		all, last = append(all, longer...), longer
	}
	return all
}

// eachHeapOf calls check with all valid heaps with a number of cells, up to so many references in each of them, and so many roots that may be other than -1; Data does not matter.
func eachHeapOf(cells, refs, roots int, check func(h impl.Heap)) {
	for used := range 1 << cells {
		targets := []int{-1}
		for number := range cells {
			if used&(1<<number) != 0 {
				targets = append(targets, number)
			}
		}
		choices := targetLists(targets, refs)
		var rootChoices [][]int
		for _, list := range targetLists(targets, roots) {
			if len(list) == roots {
				rootChoices = append(rootChoices, rootsOf(list...))
			}
		}
		list := make([]impl.Cell, cells)
		var choose func(number int)
		choose = func(number int) {
			switch {
			case number == cells:
				for _, chosen := range rootChoices {
					check(impl.Heap{Cells: list, Roots: chosen})
				}
			case !slices.Contains(targets, number):
				choose(number + 1)
			default:
				for _, chosen := range choices {
					list[number] = usedCell(number, chosen...)
					choose(number + 1)
				}
			}
		}
		choose(0)
	}
}

// withoutCells returns a heap in which some cells are not used, and all that led to them is -1.
func withoutCells(h impl.Heap, gone func(number int) bool) impl.Heap {
	other := copyOf(h)
	leave := func(numbers []int) {
		for k, number := range numbers {
			if number != -1 && gone(number) {
				numbers[k] = -1
			}
		}
	}
	leave(other.Roots)
	for number := range other.Cells {
		leave(other.Cells[number].Refs)
		if gone(number) {
			other.Cells[number] = impl.Cell{}
		}
	}
	return other
}

// shapesOf returns for a number of cells, which is at least 1, lists of so many used cells: chains, cycles, cells to which many others refer, trees, and cells that refer to nothing.
func shapesOf(cells int) [][]impl.Cell {
	last := cells - 1
	inside := func(number int) int {
		if number < 0 || number > last {
			return -1
		}
		return number
	}
	var shapes [][]impl.Cell
	for _, refsOf := range []func(number int) []int{
		func(number int) []int { return nil },
		func(number int) []int { return []int{-1, -1, -1} },
		func(number int) []int { return []int{inside(number + 1)} },
		func(number int) []int { return []int{-1, inside(number - 1)} },
		func(number int) []int { return []int{(number + 1) % cells} },
		func(number int) []int { return []int{(number + 1) % cells, -1, (number + last) % cells} },
		func(number int) []int { return []int{number, number, number} },
		func(number int) []int { return []int{inside(number ^ 1)} },
		func(number int) []int { return []int{0, 0, 0} },
		func(number int) []int { return []int{last, -1, last} },
		func(number int) []int { return []int{inside(2*number + 1), inside(2*number + 2)} },
		func(number int) []int { return []int{number / 2, inside(number + 7), inside(number - 5)} },
	} {
		list := make([]impl.Cell, cells)
		for number := range list {
			list[number] = usedCell((number*17+3)%(impl.MaxData+1), refsOf(number)...)
		}
		shapes = append(shapes, list)
	}
	return shapes
}

// shapedHeaps returns the heaps of all shapes with a number of cells, which is at least 1: with different roots, and with cells that are not used at the beginning, between and at the end.
func shapedHeaps(cells int) []impl.Heap {
	last, half := cells-1, cells/2
	var all []impl.Heap
	for _, list := range shapesOf(cells) {
		for _, roots := range [][]int{nil, {0}, {last}, {half}, {-1, -1, -1, 0}, {0, 0, 0, 0}, {half, -1, last, half}} {
			for _, gone := range []func(number int) bool{
				func(number int) bool { return false },
				func(number int) bool { return true },
				func(number int) bool { return number == 0 },
				func(number int) bool { return number == last },
				func(number int) bool { return number%2 == 0 },
				func(number int) bool { return number%2 == 1 },
				func(number int) bool { return number < cells/3 },
				func(number int) bool { return number >= cells/3 && number < 2*cells/3 },
				func(number int) bool { return number >= 2*cells/3 },
			} {
				all = append(all, withoutCells(heapWith(list, roots...), gone))
			}
		}
	}
	return all
}

// mixedHeap returns a valid heap with a number of cells that follows no visible rule, another one for every turn.
func mixedHeap(cells, turn int) impl.Heap {
	state := uint32(cells*1000 + turn)
	next := func(below int) int {
		state = state*1664525 + 1013904223
		return int(state>>16) % below
	}
	h := heapWith(make([]impl.Cell, cells))
	used := []int{-1}
	for number := range h.Cells {
		if next(5) > 0 {
			h.Cells[number] = usedCell(next(impl.MaxData+1), make([]int, next(impl.MaxRefs+1))...)
			used = append(used, number)
		}
	}
	for _, number := range used[1:] {
		for k := range h.Cells[number].Refs {
			h.Cells[number].Refs[k] = used[next(len(used))]
		}
	}
	// In every second heap only one root leads on, so that more cells are lost.
	for k := range impl.MaxRoots - turn%2*3 {
		h.Roots[k] = used[next(len(used))]
	}
	return h
}

// largeHeaps returns valid heaps of all sizes up to MaxCells.
func largeHeaps() []impl.Heap {
	var all []impl.Heap
	for _, cells := range []int{1, 2, 3, 4, 7, 31, 32, 33, impl.MaxCells - 1, impl.MaxCells} {
		all = append(all, shapedHeaps(cells)...)
	}
	for cells := range impl.MaxCells + 1 {
		for turn := range 20 {
			all = append(all, mixedHeap(cells, turn))
		}
	}
	return all
}

// eachHeap calls check with all valid heaps of up to 2 cells, with those of 3 cells that have few references or roots, and with some that are larger.
func eachHeap(check func(h impl.Heap)) {
	eachHeapOf(0, impl.MaxRefs, impl.MaxRoots, check)
	eachHeapOf(1, impl.MaxRefs, impl.MaxRoots, check)
	eachHeapOf(2, impl.MaxRefs, impl.MaxRoots, check)
	eachHeapOf(3, 1, impl.MaxRoots, check)
	eachHeapOf(3, 2, 1, check)
	for _, h := range largeHeaps() {
		check(h)
	}
}

func TestHeapsOfTheChapter(t *testing.T) {
	if impl.MaxCells != 40 || impl.MaxRefs != 3 || impl.MaxRoots != 4 || impl.MaxData != 99 {
		t.Errorf("the limits of a heap are %d, %d, %d and %d", impl.MaxCells, impl.MaxRefs, impl.MaxRoots, impl.MaxData)
	}
}

type heapCase struct {
	name       string
	heap       impl.Heap
	reached    []int
	counts     []int
	used, live int
}

// ordinaryHeaps are valid heaps with cycles, chains, and cells to which several references lead.
func ordinaryHeaps() []heapCase {
	return []heapCase{
		{"one cell to which nothing leads", heapWith([]impl.Cell{usedCell(0)}), nil, []int{0}, 1, 0},
		{"one cell that is the first root", heapWith([]impl.Cell{usedCell(0)}, 0), []int{0}, []int{1}, 1, 1},
		{"one cell that is the last root", heapWith([]impl.Cell{usedCell(0)}, -1, -1, -1, 0), []int{0}, []int{1}, 1, 1},
		{"the same cell as all roots", heapWith([]impl.Cell{usedCell(0)}, 0, 0, 0, 0), []int{0}, []int{4}, 1, 1},
		{"the same cell as two roots", heapWith([]impl.Cell{usedCell(0), usedCell(0)}, 1, -1, 1), []int{1}, []int{0, 2}, 2, 1},
		{"four cells as roots", heapWith([]impl.Cell{usedCell(0), usedCell(0), usedCell(0), usedCell(0)}, 3, 1, 0, 2), []int{0, 1, 2, 3}, []int{1, 1, 1, 1}, 4, 4},
		{"a cell that refers to itself", heapWith([]impl.Cell{usedCell(5, 0)}, 0), []int{0}, []int{2}, 1, 1},
		{"a lost cell that refers to itself", heapWith([]impl.Cell{usedCell(5, 0)}), nil, []int{1}, 1, 0},
		{"a cell that refers to itself three times", heapWith([]impl.Cell{usedCell(5, 0, 0, 0)}, 0, 0), []int{0}, []int{5}, 1, 1},
		{"a cell twice among the references of one cell", heapWith([]impl.Cell{usedCell(1, 1, -1, 1), usedCell(2)}, 0), []int{0, 1}, []int{1, 2}, 2, 2},
		{"two cells that refer to each other", heapWith([]impl.Cell{usedCell(1, 1), usedCell(2, 0)}, 1), []int{0, 1}, []int{1, 2}, 2, 2},
		{"two lost cells that refer to each other", heapWith([]impl.Cell{usedCell(1, 1), usedCell(2, 0)}), nil, []int{1, 1}, 2, 0},
		{"a cycle to which no root leads beside one to which one leads", heapWith([]impl.Cell{usedCell(1, 1), usedCell(2, 0), usedCell(3, 3), usedCell(4, 2)}, -1, 3), []int{2, 3}, []int{1, 1, 1, 2}, 4, 2},
		{"a lost cycle that refers to a reached one", heapWith([]impl.Cell{usedCell(1, 1, 2), usedCell(2, 0), usedCell(3, 2)}, 2), []int{2}, []int{1, 1, 3}, 3, 1},
		{"a reached cycle that refers to another one", heapWith([]impl.Cell{usedCell(1, 1), usedCell(2, 0, 2), usedCell(3, 3), usedCell(4, 2)}, 0), []int{0, 1, 2, 3}, []int{2, 1, 2, 1}, 4, 4},
		{"a chain from its beginning", heapWith([]impl.Cell{usedCell(1, 1), usedCell(2, 2), usedCell(3)}, 0), []int{0, 1, 2}, []int{1, 1, 1}, 3, 3},
		{"a chain from between", heapWith([]impl.Cell{usedCell(1, 1), usedCell(2, 2), usedCell(3)}, 1), []int{1, 2}, []int{0, 2, 1}, 3, 2},
		{"a chain from its end", heapWith([]impl.Cell{usedCell(1, 1), usedCell(2, 2), usedCell(3)}, 2), []int{2}, []int{0, 1, 2}, 3, 1},
		{"a chain that descends", heapWith([]impl.Cell{usedCell(1), usedCell(2, -1, 0), usedCell(3, 1, -1)}, 2), []int{0, 1, 2}, []int{1, 1, 1}, 3, 3},
		{"a cell to which two ways lead", heapWith([]impl.Cell{usedCell(1, 1, 2), usedCell(2, 3), usedCell(3, 3), usedCell(4)}, 0), []int{0, 1, 2, 3}, []int{1, 1, 1, 2}, 4, 4},
		{"a cell to which reached and lost cells refer", heapWith([]impl.Cell{usedCell(1, 2), usedCell(2, 2, 2, 2), usedCell(3)}, 0), []int{0, 2}, []int{1, 0, 4}, 3, 2},
		{"references that are all -1", heapWith([]impl.Cell{usedCell(1, -1, -1, -1), usedCell(2, -1)}, 0), []int{0}, []int{1, 0}, 2, 1},
	}
}

// gappedHeaps are valid heaps without cells, and with cells that are not used.
func gappedHeaps() []heapCase {
	return []heapCase{
		{"no cells", heapWith(nil), nil, nil, 0, 0},
		{"one cell that is not used", heapWith([]impl.Cell{{}}), nil, []int{0}, 0, 0},
		{"three cells that are not used", heapWith([]impl.Cell{{}, {}, {}}), nil, []int{0, 0, 0}, 0, 0},
		{"not used at the beginning", heapWith([]impl.Cell{{}, {}, usedCell(7, 3), usedCell(8)}, 2), []int{2, 3}, []int{0, 0, 1, 1}, 2, 2},
		{"not used between", heapWith([]impl.Cell{usedCell(7, 3), {}, {}, usedCell(8)}, 0), []int{0, 3}, []int{1, 0, 0, 1}, 2, 2},
		{"not used at the end", heapWith([]impl.Cell{usedCell(7, 1), usedCell(8), {}, {}}, 0), []int{0, 1}, []int{1, 1, 0, 0}, 2, 2},
		{"not used everywhere", heapWith([]impl.Cell{{}, usedCell(7, 3, 3), {}, usedCell(8), {}, usedCell(9, 1)}, 1, 3), []int{1, 3}, []int{0, 2, 0, 3, 0, 0}, 3, 2},
	}
}

// P42, P43, P44, P46, and UsedCells: the results of single heaps, written out.
func TestOneHeap(t *testing.T) {
	for _, c := range slices.Concat(ordinaryHeaps(), gappedHeaps()) {
		if !impl.HeapValid(c.heap) {
			t.Errorf("%s: HeapValid(%v) = false", c.name, c.heap)
		}
		var reached []int
		flags := impl.Reachable(c.heap)
		for number, flag := range flags {
			if flag {
				reached = append(reached, number)
			}
		}
		if len(flags) != len(c.heap.Cells) || !slices.Equal(reached, c.reached) {
			t.Errorf("%s: Reachable(%v) = %v, and not exactly for the cells %v", c.name, c.heap, flags, c.reached)
		}
		if used, live := impl.UsedCells(c.heap); used != c.used || live != c.live {
			t.Errorf("%s: UsedCells(%v) = %d, %d, not %d, %d", c.name, c.heap, used, live, c.used, c.live)
		}
		if got := impl.RefCounts(c.heap); !slices.Equal(got, c.counts) {
			t.Errorf("%s: RefCounts(%v) = %v, not %v", c.name, c.heap, got, c.counts)
		}
	}
}

// P42: for every heap of one cell with few references, valid or not, the program agrees with the definition.
func TestHeapsOfOneCellAreTheDefinition(t *testing.T) {
	lists := targetLists([]int{-2, -1, 0, 1}, impl.MaxRefs+1)
	for _, used := range []bool{false, true} {
		for _, data := range []int{-1, 0, 1, impl.MaxData, impl.MaxData + 1} {
			for _, refs := range lists {
				for _, root := range []int{-2, -1, 0, 1} {
					cells := []impl.Cell{{Used: used, Data: data, Refs: refs}}
					checkHeap(t, heapWith(cells, root))
					checkHeap(t, heapWith(cells, -1, -1, -1, root))
				}
			}
		}
	}
}

// P42: for every heap of two cells with few references, valid or not, the program agrees with the definition.
func TestHeapsOfTwoCellsAreTheDefinition(t *testing.T) {
	var cells []impl.Cell
	for _, refs := range targetLists([]int{-2, -1, 0, 1, 2}, 2) {
		cells = append(cells, impl.Cell{Refs: refs}, usedCell(0, refs...))
	}
	for _, first := range cells {
		for _, second := range cells {
			for _, root := range []int{-1, 0, 1} {
				checkHeap(t, heapWith([]impl.Cell{first, second}, root))
			}
		}
	}
}

// P42: for all lists of few roots, as many as a heap has or not, the program agrees with the definition.
func TestRootsAreTheDefinition(t *testing.T) {
	for _, roots := range targetLists([]int{-2, -1, 0, 1, 2}, impl.MaxRoots+1) {
		for _, cells := range [][]impl.Cell{nil, {{}}, {usedCell(0)}, {{}, usedCell(1)}, {usedCell(1, 0), {}}, {usedCell(1, 1), usedCell(2, 0)}} {
			checkHeap(t, impl.Heap{Cells: cells, Roots: roots})
		}
	}
}

// eachPlace calls check with every place at which a heap has a root, or a used cell has a reference or room for one more; check may write to the place.
func eachPlace(h impl.Heap, check func(place *int)) {
	for k := range h.Roots {
		check(&h.Roots[k])
	}
	for number := range h.Cells {
		c := &h.Cells[number]
		if !c.Used {
			continue
		}
		for k := range c.Refs {
			check(&c.Refs[k])
		}
		if len(c.Refs) < impl.MaxRefs {
			before := c.Refs
			c.Refs = slices.Concat(before, []int{-1})
			check(&c.Refs[len(before)])
			c.Refs = before
		}
	}
}

// P42: a valid heap with a root or a reference that leads behind the last cell is invalid, and so it is with one that leads to a cell that is not used.
func TestReferencesLeadToUsedCells(t *testing.T) {
	eachHeap(func(h impl.Heap) {
		if !impl.HeapValid(h) {
			t.Fatalf("HeapValid(%v) = false", h)
		}
		targets := []int{len(h.Cells)}
		for number, c := range h.Cells {
			if !c.Used {
				targets = append(targets, number)
				break
			}
		}
		other := copyOf(h)
		eachPlace(other, func(place *int) {
			before := *place
			for _, target := range targets {
				*place = target
				if impl.HeapValid(other) {
					t.Fatalf("HeapValid(%v) = true", other)
				}
			}
			*place = before
		})
	})
}

// oddTargets are numbers that no cell has, among them such whose last bits would do.
var oddTargets = []int{-2, -3, -64, -65, impl.MaxCells, impl.MaxCells + 1, 63, 64, 65, 127, 128, 256, 1 << 31, 1 << 32, 1<<32 + 1, -1 << 32, math.MaxInt, math.MaxInt - 1, math.MaxInt - 63, math.MinInt, math.MinInt + 1, math.MinInt + 64}

// oddData are numbers that no cell can have as Data, among them such whose last bits would do.
var oddData = []int{-1, -2, -100, impl.MaxData + 1, impl.MaxData + 2, 127, 128, 256, 1 << 31, 1 << 32, 1<<32 + 5, -1 << 32, math.MaxInt, math.MaxInt - 1, math.MinInt, math.MinInt + 1}

// wideHeaps are heaps with MaxCells cells and with few, some of which are used and some not.
func wideHeaps() []impl.Heap {
	all := []impl.Heap{heapWith(nil), heapWith([]impl.Cell{{}}), heapWith([]impl.Cell{usedCell(0)}), heapWith([]impl.Cell{usedCell(0, 0), {}, usedCell(99, -1, 2, 0)}, 0, -1, 2)}
	for turn := range 3 {
		all = append(all, mixedHeap(7, turn), mixedHeap(impl.MaxCells, turn))
	}
	for _, cells := range shapesOf(impl.MaxCells) {
		all = append(all, heapWith(cells, 0, impl.MaxCells-1))
	}
	return all
}

// P42, P44, P46, and UsedCells: with a root or a reference to anything that is no used cell there is no result, wherever it stands.
func TestOtherTargets(t *testing.T) {
	for _, h := range wideHeaps() {
		checkValidHeap(t, h)
		targets := append([]int{len(h.Cells), len(h.Cells) + 1}, oddTargets...)
		for number, c := range h.Cells {
			if !c.Used {
				targets = append(targets, number)
			}
		}
		other := copyOf(h)
		eachPlace(other, func(place *int) {
			before := *place
			for _, target := range targets {
				*place = target
				checkInvalidHeap(t, other)
			}
			*place = before
		})
	}
}

// P42, P44, P46, and UsedCells: a cell to which something leads must be used.
func TestFreedTargets(t *testing.T) {
	eachHeapOf(3, 1, 1, func(h impl.Heap) { checkFreedTargets(t, h) })
	for _, h := range wideHeaps() {
		checkFreedTargets(t, h)
	}
}

// checkFreedTargets frees the used cells of a valid heap one at a time.
func checkFreedTargets(t *testing.T, h impl.Heap) {
	t.Helper()
	other := copyOf(h)
	for number, c := range h.Cells {
		if !c.Used {
			continue
		}
		other.Cells[number] = impl.Cell{}
		// What the cell itself referred to, itself among it, is gone with it.
		if leadingTo(other, number) > 0 {
			checkInvalidHeap(t, other)
		} else {
			checkValidHeap(t, other)
		}
		other.Cells[number] = c
	}
}

// P42: used cells have Data in 0..MaxData, and at most MaxRefs references.
func TestContentsOfUsedCells(t *testing.T) {
	for _, h := range wideHeaps() {
		other := copyOf(h)
		for number, c := range h.Cells {
			if !c.Used {
				continue
			}
			for data := range 100 {
				other.Cells[number].Data = data
				if !impl.HeapValid(other) {
					t.Fatalf("HeapValid(%v) = false", other)
				}
			}
			checkValidHeap(t, other)
			for _, data := range oddData {
				other.Cells[number].Data = data
				checkInvalidHeap(t, other)
			}
			for _, target := range []int{-1, number} {
				for _, many := range []int{0, 1, 2, impl.MaxRefs, impl.MaxRefs + 1, impl.MaxRefs + 2, 64, 1000} {
					other.Cells[number] = usedCell(c.Data, manyOf(target, many)...)
					if many <= 3 {
						checkValidHeap(t, other)
					} else {
						checkInvalidHeap(t, other)
					}
				}
			}
			other.Cells[number] = c
		}
	}
}

// P42: cells that are not used have Data 0 and no references, not even such that are -1.
func TestContentsOfCellsThatAreNotUsed(t *testing.T) {
	for _, h := range wideHeaps() {
		other := copyOf(h)
		for number, c := range h.Cells {
			if c.Used {
				continue
			}
			for _, data := range append([]int{1, 2, 50, impl.MaxData}, oddData...) {
				other.Cells[number] = impl.Cell{Data: data}
				checkInvalidHeap(t, other)
			}
			for _, target := range append([]int{-1, 0, number, len(h.Cells) - 1, len(h.Cells)}, oddTargets...) {
				for _, many := range []int{1, 2, impl.MaxRefs, impl.MaxRefs + 1} {
					other.Cells[number] = impl.Cell{Refs: manyOf(target, many)}
					checkInvalidHeap(t, other)
				}
			}
			other.Cells[number] = impl.Cell{Refs: []int{}}
			checkValidHeap(t, other)
		}
	}
}

// P42: there are exactly MaxRoots roots, whatever they lead to.
func TestNumbersOfRoots(t *testing.T) {
	for _, h := range wideHeaps() {
		targets := []int{-1}
		for number, c := range h.Cells {
			if c.Used {
				targets = append(targets, number)
			}
		}
		for _, target := range targets {
			for _, many := range []int{0, 1, 2, 3, 4, 5, 6, 8, 40, 64, 1000} {
				h.Roots = manyOf(target, many)
				if many == 4 {
					checkValidHeap(t, h)
				} else {
					checkInvalidHeap(t, h)
				}
			}
		}
		h.Roots = nil
		checkInvalidHeap(t, h)
	}
	checkInvalidHeap(t, impl.Heap{})
	checkInvalidHeap(t, impl.Heap{Cells: []impl.Cell{}, Roots: []int{}})
}

// P42: there are at most MaxCells cells, used or not, reached or lost.
func TestNumbersOfCells(t *testing.T) {
	for cells := 1; cells <= 140; cells++ {
		last := cells - 1
		for _, list := range append(shapesOf(cells), make([]impl.Cell, cells)) {
			heaps := []impl.Heap{heapWith(list)}
			if list[0].Used {
				heaps = append(heaps, heapWith(list, 0), heapWith(list, -1, last), heapWith(list, -1, 0, last))
			}
			for _, h := range heaps {
				if cells <= 40 {
					checkValidHeap(t, h)
				} else {
					checkInvalidHeap(t, h)
				}
			}
		}
	}
	for _, cells := range []int{256, 1000, 100000} {
		checkInvalidHeap(t, heapWith(make([]impl.Cell, cells)))
		checkInvalidHeap(t, heapWith(slices.Repeat([]impl.Cell{usedCell(1, 0)}, cells), 0))
	}
}

// P43: the empty heap is valid, and nothing is used or can be reached.
func TestEmptyHeapsHaveNothing(t *testing.T) {
	h := impl.EmptyHeap()
	if len(h.Cells) != 0 || !slices.Equal(h.Roots, []int{-1, -1, -1, -1}) {
		t.Fatalf("EmptyHeap() = %v", h)
	}
	if !impl.HeapValid(h) {
		t.Fatalf("HeapValid(%v) = false", h)
	}
	if used, live := impl.UsedCells(h); used != 0 || live != 0 {
		t.Fatalf("UsedCells(%v) = %d, %d", h, used, live)
	}
	if reached, counts := impl.Reachable(h), impl.RefCounts(h); len(reached) != 0 || len(counts) != 0 {
		t.Fatalf("Reachable(%v) = %v, and RefCounts = %v", h, reached, counts)
	}
}

func TestEmptyHeapsShareNothing(t *testing.T) {
	first, second := impl.EmptyHeap(), impl.EmptyHeap()
	fillNumbers(first.Roots[:cap(first.Roots)])
	fillCells(first.Cells[:cap(first.Cells)])
	for _, h := range []impl.Heap{second, impl.EmptyHeap()} {
		if len(h.Cells) != 0 || !slices.Equal(h.Roots, []int{-1, -1, -1, -1}) {
			t.Fatalf("two empty heaps share memory: %v", h)
		}
	}
}

// P44: roots and references of reached cells lead to reached cells, all of which are used; no other cell is reached.
func TestReachedCellsLeadOn(t *testing.T) {
	eachHeap(func(h impl.Heap) {
		reached := impl.Reachable(h)
		if len(reached) != len(h.Cells) {
			t.Fatalf("Reachable(%v) = %v", h, reached)
		}
		lists := [][]int{h.Roots}
		for number, c := range h.Cells {
			if reached[number] && !c.Used {
				t.Fatalf("Reachable(%v) = %v, and cell %d is not used", h, reached, number)
			}
			if reached[number] {
				lists = append(lists, c.Refs)
			}
		}
		for _, target := range slices.Concat(lists...) {
			if target != -1 && !reached[target] {
				t.Fatalf("Reachable(%v) = %v, but something leads to cell %d", h, reached, target)
			}
		}
		if want := reachableOf(h); !slices.Equal(reached, want) {
			t.Fatalf("Reachable(%v) = %v, not %v", h, reached, want)
		}
	})
}

// P46: the counts are together the number of roots and references that are not -1; cells that are not used have 0.
func TestReferencesAreCountedOnce(t *testing.T) {
	eachHeap(func(h impl.Heap) {
		counts := impl.RefCounts(h)
		if want := refCountsOf(h); !slices.Equal(counts, want) {
			t.Fatalf("RefCounts(%v) = %v, not %v", h, counts, want)
		}
		lists, together := [][]int{h.Roots}, 0
		for number, c := range h.Cells {
			lists = append(lists, c.Refs)
			together += counts[number]
			if !c.Used && counts[number] != 0 {
				t.Fatalf("RefCounts(%v) = %v, and cell %d is not used", h, counts, number)
			}
		}
		leading := slices.DeleteFunc(slices.Concat(lists...), func(target int) bool { return target == -1 })
		if together != len(leading) {
			t.Fatalf("RefCounts(%v) = %v, and %d roots and references lead to cells", h, counts, len(leading))
		}
	})
}

// UsedCells counts the used cells and those of Reachable, which are not more.
func TestUsedCellsAreCounted(t *testing.T) {
	eachHeap(func(h impl.Heap) {
		wantUsed, wantLive := usedCellsOf(h)
		used, live := impl.UsedCells(h)
		if used != wantUsed || live != wantLive || live > used || used > len(h.Cells) {
			t.Fatalf("UsedCells(%v) = %d, %d, not %d, %d", h, used, live, wantUsed, wantLive)
		}
	})
}

// P44, P46, and UsedCells: every one of MaxCells cells can be a root and refer to every one, and each of them can be the only one that is used.
func TestEveryCellLeadsToEveryCell(t *testing.T) {
	for from := range impl.MaxCells {
		for to := range impl.MaxCells {
			cells := slices.Repeat([]impl.Cell{usedCell(0)}, impl.MaxCells)
			cells[from] = usedCell(0, -1, to)
			checkValidHeap(t, heapWith(cells, -1, from))
			checkValidHeap(t, heapWith(cells))
		}
		only := make([]impl.Cell, impl.MaxCells)
		only[from] = usedCell(impl.MaxData, from)
		checkValidHeap(t, heapWith(only, from))
		checkValidHeap(t, heapWith(only))
	}
}

// P42, P44, P46, and UsedCells: nil and empty slices are the same.
func TestNilAndEmptySlicesOfHeaps(t *testing.T) {
	for _, cells := range [][]impl.Cell{nil, {}} {
		checkValidHeap(t, heapWith(cells))
	}
	for _, refs := range [][]int{nil, {}} {
		checkValidHeap(t, heapWith([]impl.Cell{{Refs: refs}, {Used: true, Refs: refs}}, 1))
	}
}

// TestHeapsThatShareMemory: the slices of an argument may be the same ones.
func TestHeapsThatShareMemory(t *testing.T) {
	refs := []int{1, -1, 0, -1}
	cells := []impl.Cell{usedCell(1, refs[:3]...), usedCell(2, refs[1:]...), usedCell(3, refs[:2]...)}
	checkValidHeap(t, impl.Heap{Cells: cells, Roots: refs})
	if counts := impl.RefCounts(impl.Heap{Cells: cells, Roots: refs}); !slices.Equal(counts, []int{3, 3, 0}) || !slices.Equal(refs, []int{1, -1, 0, -1}) {
		t.Fatalf("RefCounts = %v, with references %v", counts, refs)
	}
}

// TestHeapsReturnForAllNumbers: for every number a root, a reference, Data or a length can be, the functions return what the chapter gives.
func TestHeapsReturnForAllNumbers(t *testing.T) {
	numbers := manyNumbers()
	few := heapWith([]impl.Cell{usedCell(0, 0), {}, usedCell(99, -1, 2, 0)}, 0, -1, 2)
	for _, h := range []impl.Heap{heapWith(nil), few, mixedHeap(impl.MaxCells, 0)} {
		for _, number := range numbers {
			for k := range h.Roots {
				other := copyOf(h)
				other.Roots[k] = number
				checkHeap(t, other)
			}
			for _, k := range []int{0, 1, 2, 20, impl.MaxCells - 1} {
				if k >= len(h.Cells) {
					continue
				}
				for _, c := range []impl.Cell{{Data: number}, usedCell(number), usedCell(0, number), usedCell(0, -1, -1, number), {Refs: []int{number}}} {
					other := copyOf(h)
					other.Cells[k] = c
					checkHeap(t, other)
				}
			}
		}
	}
	for many := range 70 {
		checkHeap(t, heapWith(make([]impl.Cell, many)))
		checkHeap(t, heapWith([]impl.Cell{usedCell(0, manyOf(0, many)...)}, 0))
		checkHeap(t, impl.Heap{Cells: []impl.Cell{usedCell(0)}, Roots: manyOf(0, many)})
	}
}

// TestHeapsOfExtremeNumbers: for cells whose numbers are all very large or very small the functions return what the chapter gives.
func TestHeapsOfExtremeNumbers(t *testing.T) {
	extremes := []int{math.MinInt, math.MinInt + 1, -2, -1, 0, 1, math.MaxInt - 1, math.MaxInt}
	for _, data := range extremes {
		for _, target := range extremes {
			for _, root := range extremes {
				for _, used := range []bool{false, true} {
					c := impl.Cell{Used: used, Data: data, Refs: []int{target}}
					checkHeap(t, heapWith([]impl.Cell{c}, root))
					checkHeap(t, heapWith([]impl.Cell{c, {}, c, usedCell(0)}, -1, root))
				}
			}
		}
	}
}

// fillNumbers and fillCells overwrite slices with what no result has.
func fillNumbers(list []int) {
	for k := range list {
		list[k] = -7
	}
}

func fillCells(list []impl.Cell) {
	for k := range list {
		list[k] = usedCell(-7, -7)
	}
}

// withSpare returns a copy of a list with spare capacity that is filled, which is the second result together with it.
func withSpare(list []int) ([]int, []int) {
	whole := make([]int, len(list)+3)
	fillNumbers(whole)
	copy(whole, list)
	return whole[:len(list)], whole
}

// spareHeap is a heap whose slices have spare capacity, and the same slices with their spare capacity.
type spareHeap struct {
	heap  impl.Heap
	cells []impl.Cell
	lists [][]int
}

// spareOf returns a copy of a heap with spare capacity that is filled.
func spareOf(h impl.Heap) spareHeap {
	var s spareHeap
	spare := func(list []int) []int {
		part, whole := withSpare(list)
		s.lists = append(s.lists, whole)
		return part
	}
	s.cells = make([]impl.Cell, len(h.Cells)+3)
	fillCells(s.cells)
	for number, c := range h.Cells {
		s.cells[number] = impl.Cell{Used: c.Used, Data: c.Data, Refs: spare(c.Refs)}
	}
	s.heap = impl.Heap{Cells: s.cells[:len(h.Cells)], Roots: spare(h.Roots)}
	return s
}

// state returns all numbers of the heap and of the spare capacity.
func (s spareHeap) state() []int {
	state := slices.Concat(s.lists...)
	for _, c := range s.cells {
		used := 0
		if c.Used {
			used = 1
		}
		state = append(state, used, c.Data, len(c.Refs))
		state = append(state, c.Refs...)
	}
	return state
}

// checkHeapSharesNothing fails if the functions of the chapter change a heap or the spare capacity of its slices, or if overwriting their results, with their spare capacity, changes the heap or another result.
func checkHeapSharesNothing(t *testing.T, h impl.Heap) {
	t.Helper()
	s := spareOf(h)
	before := s.state()
	checkHeap(t, s.heap)
	reached, counts := impl.Reachable(s.heap), impl.RefCounts(s.heap)
	otherReached, otherCounts := impl.Reachable(s.heap), impl.RefCounts(s.heap)
	if !slices.Equal(s.state(), before) {
		t.Fatalf("the heap %v became %v", h, s.heap)
	}
	wantReached, wantCounts := slices.Clone(reached), slices.Clone(counts)
	overwrite(reached[:cap(reached)])
	fillNumbers(counts[:cap(counts)])
	if !slices.Equal(s.state(), before) {
		t.Fatalf("the heap %v shares memory with a result", h)
	}
	if !slices.Equal(otherReached, wantReached) || !slices.Equal(otherCounts, wantCounts) {
		t.Fatalf("results of %v share memory", h)
	}
	checkHeap(t, s.heap)
}

// TestHeapsShareNothing: no argument changes, valid or not, not even when all results are overwritten, and neither does another result.
func TestHeapsShareNothing(t *testing.T) {
	eachHeapOf(2, 2, 2, func(h impl.Heap) { checkHeapSharesNothing(t, h) })
	for _, h := range largeHeaps() {
		checkHeapSharesNothing(t, h)
	}
	for _, h := range wideHeaps() {
		checkHeapSharesNothing(t, h)
		other := copyOf(h)
		eachPlace(other, func(place *int) {
			before := *place
			*place = len(h.Cells)
			checkHeapSharesNothing(t, other)
			*place = before
		})
		checkHeapSharesNothing(t, impl.Heap{Cells: h.Cells, Roots: h.Roots[:impl.MaxRoots-1]})
		checkHeapSharesNothing(t, impl.Heap{Cells: slices.Concat(h.Cells, make([]impl.Cell, impl.MaxCells+1)), Roots: h.Roots})
	}
}
