package tests

import (
	"fmt"
	"math"
	"slices"
	"testing"

	"loop.example/memorymanagers/impl"
)

// metOrderOf is what MetOrder must return for a valid heap, from its definition.
func metOrderOf(h impl.Heap) []int {
	var met []int
	meet := func(numbers []int) {
		for _, number := range numbers {
			if number != -1 && !slices.Contains(met, number) {
				met = append(met, number)
			}
		}
	}
	meet(h.Roots)
	for k := 0; k < len(met); k++ {
		meet(h.Cells[met[k]].Refs)
	}
	return met
}

// viewOf is what ViewOf must return for a valid heap, from its definition.
func viewOf(h impl.Heap) []int {
	met := metOrderOf(h)
	var view []int
	see := func(numbers []int) {
		for _, number := range numbers {
			// What is -1 is no cell that was met: so its place is -1.
			view = append(view, slices.Index(met, number))
		}
	}
	see(h.Roots)
	for _, number := range met {
		c := h.Cells[number]
		view = append(view, c.Data, len(c.Refs))
		see(c.Refs)
	}
	return view
}

// sameLook reports whether the cells that can be reached in two valid heaps are in pairs: those of the same roots, and those of the same references of a pair, whose Data and numbers of references are equal. It does without any order of the cells.
func sameLook(a, b impl.Heap) bool {
	type pair struct{ a, b int }
	partners, known := map[int]int{-1: -1}, map[int]int{-1: -1}
	var waiting []pair
	look := func(first, second []int) bool {
		for k := range first {
			x, y := first[k], second[k]
			other, met := partners[x]
			back, metToo := known[y]
			if met != metToo || met && (other != y || back != x) {
				return false
			}
			if !met {
				partners[x], known[y] = y, x
				waiting = append(waiting, pair{x, y})
			}
		}
		return true
	}
	if !look(a.Roots, b.Roots) {
		return false
	}
	for len(waiting) > 0 {
		c, d := a.Cells[waiting[0].a], b.Cells[waiting[0].b]
		waiting = waiting[1:]
		if c.Data != d.Data || len(c.Refs) != len(d.Refs) || !look(c.Refs, d.Refs) {
			return false
		}
	}
	return true
}

// heapOfView is what HeapOf must return, from its definition: the list is cut into roots and cells, which must be those of a valid heap whose cells are met in the order in which they are.
func heapOfView(view []int) (impl.Heap, bool) {
	if len(view) < 4 {
		return impl.Heap{}, false
	}
	h := impl.Heap{Roots: view[:4]}
	for at := 4; at < len(view); {
		if at+1 == len(view) || view[at+1] < 0 || view[at+1] > len(view)-at-2 {
			return impl.Heap{}, false
		}
		behind := at + 2 + view[at+1]
		h.Cells = append(h.Cells, usedCell(view[at], view[at+2:behind]...))
		at = behind
	}
	if !validHeap(h) {
		return impl.Heap{}, false
	}
	for k, number := range metOrderOf(h) {
		if number != k {
			return impl.Heap{}, false
		}
	}
	if len(metOrderOf(h)) != len(h.Cells) {
		return impl.Heap{}, false
	}
	return copyOf(h), true
}

// checkViews compares MetOrder and ViewOf with their definitions for a valid heap, and HeapOf with its own for the view.
func checkViews(t *testing.T, h impl.Heap) {
	t.Helper()
	if got, want := impl.MetOrder(h), metOrderOf(h); !slices.Equal(got, want) {
		t.Fatalf("MetOrder(%v) = %v, not %v", h, got, want)
	}
	view := viewOf(h)
	if got := impl.ViewOf(h); !slices.Equal(got, view) {
		t.Fatalf("ViewOf(%v) = %v, not %v", h, got, view)
	}
	if !impl.SameView(h, h) {
		t.Fatalf("SameView of %v and itself = false", h)
	}
	checkAccepted(t, view)
}

// checkNoViews fails unless an invalid heap has the results that the chapter gives for it, beside a valid one too.
func checkNoViews(t *testing.T, h impl.Heap) {
	t.Helper()
	if got := impl.MetOrder(h); len(got) != 0 {
		t.Fatalf("MetOrder(%v) = %v", h, got)
	}
	if got := impl.ViewOf(h); len(got) != 0 {
		t.Fatalf("ViewOf(%v) = %v", h, got)
	}
	for _, other := range []impl.Heap{h, heapWith(nil), heapWith([]impl.Cell{usedCell(5, 1, -1), usedCell(6, 0), {}, usedCell(7)}, 0, 1)} {
		if impl.SameView(h, other) || impl.SameView(other, h) {
			t.Fatalf("SameView of %v and %v = true", h, other)
		}
	}
}

// checkViewsOf checks a heap that may be valid or not.
func checkViewsOf(t *testing.T, h impl.Heap) {
	t.Helper()
	if validHeap(h) {
		checkViews(t, h)
	} else {
		checkNoViews(t, h)
	}
}

// checkSame compares SameView of two valid heaps, in both orders, with its definition, and tells what it is.
func checkSame(t *testing.T, a, b impl.Heap) bool {
	t.Helper()
	want := sameLook(a, b)
	if want != slices.Equal(viewOf(a), viewOf(b)) {
		t.Fatalf("the test has two opinions on %v and %v", a, b)
	}
	if got := impl.SameView(a, b); got != want {
		t.Fatalf("SameView(%v, %v) = %v", a, b, got)
	}
	if got := impl.SameView(b, a); got != want {
		t.Fatalf("SameView(%v, %v) = %v", b, a, got)
	}
	return want
}

// checkAccepted fails unless a list of numbers is the view of the heap that HeapOf returns for it, all cells of which can be reached.
func checkAccepted(t *testing.T, view []int) {
	t.Helper()
	h, ok := impl.HeapOf(view)
	want, accepted := heapOfView(view)
	if !ok || !accepted || !sameHeap(h, want) {
		t.Fatalf("HeapOf(%v) = %v, %v, not %v, %v", view, h, ok, want, accepted)
	}
	if !impl.HeapValid(h) || !slices.Equal(impl.ViewOf(h), view) || !slices.Equal(viewOf(h), view) {
		t.Fatalf("HeapOf(%v) = %v, with the view %v", view, h, impl.ViewOf(h))
	}
	if slices.Contains(impl.Reachable(h), false) || slices.Contains(reachableOf(h), false) {
		t.Fatalf("HeapOf(%v) = %v, of which %v can be reached", view, h, impl.Reachable(h))
	}
	for k, number := range impl.MetOrder(h) {
		if number != k {
			t.Fatalf("HeapOf(%v) = %v, whose cells are met in the order %v", view, h, impl.MetOrder(h))
		}
	}
}

// checkRefused fails unless HeapOf returns the zero value and false for a list of numbers.
func checkRefused(t *testing.T, list []int) {
	t.Helper()
	if h, ok := impl.HeapOf(list); ok || len(h.Cells) != 0 || len(h.Roots) != 0 {
		t.Fatalf("HeapOf(%v) = %v, %v", list, h, ok)
	}
}

// checkList compares HeapOf with its definition for a list of numbers that may be a view or not, and tells whether it is one.
func checkList(t *testing.T, list []int) bool {
	t.Helper()
	_, accepted := heapOfView(list)
	if accepted {
		checkAccepted(t, list)
	} else {
		checkRefused(t, list)
	}
	return accepted
}

// placed returns a heap that has the cells of another one at other places: cell number k at places[k] of so many, of which the others are not used.
func placed(h impl.Heap, cells int, places []int) impl.Heap {
	at := func(numbers []int) []int {
		other := slices.Clone(numbers)
		for k, number := range other {
			if number != -1 {
				other[k] = places[number]
			}
		}
		return other
	}
	next := impl.Heap{Cells: make([]impl.Cell, cells), Roots: at(h.Roots)}
	for number, c := range h.Cells {
		next.Cells[places[number]] = impl.Cell{Used: c.Used, Data: c.Data, Refs: at(c.Refs)}
	}
	return next
}

// withLostCells returns a heap of which a program sees the same as of a valid one, in which all cells that cannot be reached are used, and refer to themselves and to what can be reached.
func withLostCells(h impl.Heap) impl.Heap {
	other := copyOf(h)
	for number, reached := range reachableOf(h) {
		if !reached {
			other.Cells[number] = usedCell(impl.MaxData-number, h.Roots[0], number, -1)
		}
	}
	return other
}

// elsewhere returns heaps of which a program sees the same as of a valid one: with the cells at other places, with cells that are not used among them, with other lost cells, and without any.
func elsewhere(h impl.Heap) []impl.Heap {
	cells, reached := len(h.Cells), reachableOf(h)
	all := []impl.Heap{withoutCells(h, func(number int) bool { return !reached[number] })}
	add := func(cells int, placeOf func(number int) int, change func(h impl.Heap) impl.Heap) {
		if cells > impl.MaxCells {
			return
		}
		var places []int
		for number := range h.Cells {
			places = append(places, placeOf(number))
		}
		all = append(all, change(placed(h, cells, places)))
	}
	add(cells, func(number int) int { return cells - 1 - number }, copyOf)
	add(cells, func(number int) int { return (number + 1) % cells }, withLostCells)
	add(cells+1, func(number int) int { return number + 1 }, copyOf)
	add(2*cells+1, func(number int) int { return 2*(cells-1-number) + 1 }, copyOf)
	add(2*cells+3, func(number int) int { return 2*number + 1 }, withLostCells)
	return all
}

type viewCase struct {
	name string
	heap impl.Heap
	met  []int
	view []int
}

// cellsMetTwice are heaps in which several ways lead to one cell.
func cellsMetTwice() []viewCase {
	return []viewCase{
		{"two roots that lead to one cell", heapWith([]impl.Cell{usedCell(1), usedCell(2)}, 1, 1), []int{1}, []int{0, 0, -1, -1, 2, 0}},
		{"two roots that lead to one cell, with one between", heapWith([]impl.Cell{usedCell(1), usedCell(2)}, 1, 0, 1), []int{1, 0}, []int{0, 1, 0, -1, 2, 0, 1, 0}},
		{"four roots that lead to one cell", heapWith([]impl.Cell{usedCell(7, -1)}, 0, 0, 0, 0), []int{0}, []int{0, 0, 0, 0, 7, 1, -1}},
		{"two references of one cell that lead to one cell", heapWith([]impl.Cell{usedCell(1), usedCell(2, 0, 0)}, 1), []int{1, 0}, []int{0, -1, -1, -1, 2, 2, 1, 1, 1, 0}},
		{"two references of one cell that lead to one cell, with one between", heapWith([]impl.Cell{usedCell(1), usedCell(2, 0, 2, 0), usedCell(3)}, 1), []int{1, 0, 2}, []int{0, -1, -1, -1, 2, 3, 1, 2, 1, 1, 0, 3, 0}},
		{"references of two cells that lead to one cell", heapWith([]impl.Cell{usedCell(1, 2), usedCell(2, 2), usedCell(3)}, 1, 0), []int{1, 0, 2}, []int{0, 1, -1, -1, 2, 1, 2, 1, 1, 2, 3, 0}},
		{"a cell that refers to itself", heapWith([]impl.Cell{usedCell(5, 0)}, -1, 0), []int{0}, []int{-1, 0, -1, -1, 5, 1, 0}},
		{"a cell that refers to itself three times", heapWith([]impl.Cell{usedCell(5, 0, 0, 0)}, 0), []int{0}, []int{0, -1, -1, -1, 5, 3, 0, 0, 0}},
		{"two cells that refer to each other", heapWith([]impl.Cell{usedCell(5, 1), usedCell(6, 0)}, 1), []int{1, 0}, []int{0, -1, -1, -1, 6, 1, 1, 5, 1, 0}},
		{"two cells that refer to each other, both roots", heapWith([]impl.Cell{usedCell(5, 1), usedCell(6, 0)}, 1, -1, 0), []int{1, 0}, []int{0, -1, 1, -1, 6, 1, 1, 5, 1, 0}},
		{"a cycle of three cells", heapWith([]impl.Cell{usedCell(1, 2), usedCell(2, 0), usedCell(3, 1)}, 1), []int{1, 0, 2}, []int{0, -1, -1, -1, 2, 1, 1, 1, 1, 2, 3, 1, 0}},
		{"a cell to which a root and a reference lead", heapWith([]impl.Cell{usedCell(1, 1), usedCell(2)}, 0, 1), []int{0, 1}, []int{0, 1, -1, -1, 1, 1, 1, 2, 0}},
		{"a cell to which a reference and a later root lead", heapWith([]impl.Cell{usedCell(1, 2, 1), usedCell(2), usedCell(3)}, 0, 1), []int{0, 1, 2}, []int{0, 1, -1, -1, 1, 2, 2, 1, 2, 0, 3, 0}},
		{"a cell to which two ways of different lengths lead", heapWith([]impl.Cell{usedCell(1, 1, 2), usedCell(2, 3), usedCell(3), usedCell(4, 2)}, 0), []int{0, 1, 2, 3}, []int{0, -1, -1, -1, 1, 2, 1, 2, 2, 1, 3, 3, 0, 4, 1, 2}},
	}
}

// cellsInOrder are heaps in which the order matters: a cell is worked off only after all that were met before it.
func cellsInOrder() []viewCase {
	return []viewCase{
		{"no cells", heapWith(nil), nil, []int{-1, -1, -1, -1}},
		{"the heap of the given test", heapWith([]impl.Cell{usedCell(5, 1, -1), usedCell(6, 0), usedCell(7, 1)}, 0), []int{0, 1}, []int{0, -1, -1, -1, 5, 2, 1, -1, 6, 1, 0}},
		{"four roots", heapWith([]impl.Cell{usedCell(1), usedCell(2), usedCell(3), usedCell(4)}, 3, 1, 0, 2), []int{3, 1, 0, 2}, []int{0, 1, 2, 3, 4, 0, 2, 0, 1, 0, 3, 0}},
		{"roots that are -1 between roots that are not", heapWith([]impl.Cell{usedCell(1), usedCell(2)}, -1, 1, -1, 0), []int{1, 0}, []int{-1, 0, -1, 1, 2, 0, 1, 0}},
		{"only the last root is not -1", heapWith([]impl.Cell{usedCell(9, -1, 0)}, -1, -1, -1, 0), []int{0}, []int{-1, -1, -1, 0, 9, 2, -1, 0}},
		{"all roots before references", heapWith([]impl.Cell{usedCell(1, 2), usedCell(2), usedCell(3)}, 0, 1), []int{0, 1, 2}, []int{0, 1, -1, -1, 1, 1, 2, 2, 0, 3, 0}},
		{"a tree by its levels", heapWith([]impl.Cell{usedCell(1, 1, 2), usedCell(2, 3, 4), usedCell(3, 5, 6), usedCell(4), usedCell(5), usedCell(6), usedCell(7)}, 0), []int{0, 1, 2, 3, 4, 5, 6}, []int{0, -1, -1, -1, 1, 2, 1, 2, 2, 2, 3, 4, 3, 2, 5, 6, 4, 0, 5, 0, 6, 0, 7, 0}},
		{"a tree from its end", heapWith([]impl.Cell{usedCell(1), usedCell(2), usedCell(3, 1), usedCell(4, 0), usedCell(5, 3, 2)}, 4), []int{4, 3, 2, 0, 1}, []int{0, -1, -1, -1, 5, 2, 1, 2, 4, 1, 3, 3, 1, 4, 1, 0, 2, 0}},
		{"references in their order, whatever their numbers are", heapWith([]impl.Cell{usedCell(1), usedCell(2, 3, 0, 2), usedCell(3), usedCell(4)}, 1), []int{1, 3, 0, 2}, []int{0, -1, -1, -1, 2, 3, 1, 2, 3, 4, 0, 1, 0, 3, 0}},
		{"a chain that descends", heapWith([]impl.Cell{usedCell(1), usedCell(2, -1, 0), usedCell(3, 1, -1)}, 2), []int{2, 1, 0}, []int{0, -1, -1, -1, 3, 2, 1, -1, 2, 2, -1, 2, 1, 0}},
		{"references that are -1 between references that are not", heapWith([]impl.Cell{usedCell(0, 1, -1, 2), usedCell(99, -1, -1, -1), usedCell(50, -1)}, 0), []int{0, 1, 2}, []int{0, -1, -1, -1, 0, 3, 1, -1, 2, 99, 3, -1, -1, -1, 50, 1, -1}},
		{"only lost cells", heapWith([]impl.Cell{usedCell(1, 1), usedCell(2, 0), usedCell(3, 2)}), nil, []int{-1, -1, -1, -1}},
		{"only cells that are not used", heapWith([]impl.Cell{{}, {}, {}}), nil, []int{-1, -1, -1, -1}},
		{"lost cells that refer to reached ones", heapWith([]impl.Cell{usedCell(1, 1), usedCell(2), usedCell(3, 0, 1)}, 1), []int{1}, []int{0, -1, -1, -1, 2, 0}},
		{"cells that are not used between used ones", heapWith([]impl.Cell{{}, usedCell(7, 3, 3), {}, usedCell(8), {}, usedCell(9, 1)}, 5), []int{5, 1, 3}, []int{0, -1, -1, -1, 9, 1, 1, 7, 2, 2, 2, 8, 0}},
		{"cells with the same contents", heapWith([]impl.Cell{usedCell(4, -1), usedCell(4, -1), usedCell(4, -1)}, 2, 0), []int{2, 0}, []int{0, 1, -1, -1, 4, 1, -1, 4, 1, -1}},
	}
}

// P52, P54: the results for single heaps, written out.
func TestOneView(t *testing.T) {
	for _, c := range slices.Concat(cellsMetTwice(), cellsInOrder()) {
		if got := impl.MetOrder(c.heap); !slices.Equal(got, c.met) {
			t.Errorf("%s: MetOrder(%v) = %v, not %v", c.name, c.heap, got, c.met)
		}
		if got := impl.ViewOf(c.heap); !slices.Equal(got, c.view) {
			t.Errorf("%s: ViewOf(%v) = %v, not %v", c.name, c.heap, got, c.view)
		}
		h, ok := impl.HeapOf(c.view)
		if !ok || !slices.Equal(impl.ViewOf(h), c.view) || len(h.Cells) != len(c.met) {
			t.Errorf("%s: HeapOf(%v) = %v, %v", c.name, c.view, h, ok)
		}
		if !impl.SameView(h, c.heap) {
			t.Errorf("%s: SameView(%v, %v) = false", c.name, h, c.heap)
		}
		for _, other := range elsewhere(c.heap) {
			if got := impl.ViewOf(other); !slices.Equal(got, c.view) {
				t.Errorf("%s: ViewOf(%v) = %v, not %v", c.name, other, got, c.view)
			}
		}
	}
}

type listCase struct {
	name string
	list []int
	want impl.Heap
}

// writtenLists are views and their heaps.
func writtenLists() []listCase {
	return []listCase{
		{"no cells", []int{-1, -1, -1, -1}, heapWith(nil)},
		{"one cell", []int{0, -1, -1, -1, 5, 0}, heapWith([]impl.Cell{usedCell(5)}, 0)},
		{"one cell as the last root", []int{-1, -1, -1, 0, 0, 0}, heapWith([]impl.Cell{usedCell(0)}, -1, -1, -1, 0)},
		{"one cell as all roots", []int{0, 0, 0, 0, 99, 3, 0, -1, 0}, heapWith([]impl.Cell{usedCell(99, 0, -1, 0)}, 0, 0, 0, 0)},
		{"four roots", []int{0, 1, 2, 3, 1, 0, 2, 0, 3, 0, 4, 0}, heapWith([]impl.Cell{usedCell(1), usedCell(2), usedCell(3), usedCell(4)}, 0, 1, 2, 3)},
		{"a root that leads back", []int{0, 1, 0, 1, 1, 0, 2, 0}, heapWith([]impl.Cell{usedCell(1), usedCell(2)}, 0, 1, 0, 1)},
		{"a chain", []int{-1, 0, -1, -1, 1, 1, 1, 2, 1, 2, 3, 1, -1}, heapWith([]impl.Cell{usedCell(1, 1), usedCell(2, 2), usedCell(3, -1)}, -1, 0)},
		{"a cell to which a root and a reference lead", []int{0, 1, -1, -1, 1, 1, 1, 2, 1, 0}, heapWith([]impl.Cell{usedCell(1, 1), usedCell(2, 0)}, 0, 1)},
		{"references that lead back and on", []int{0, -1, -1, -1, 1, 3, 1, 0, 2, 2, 3, 0, 3, 1, 3, 0, 4, 1, 2}, heapWith([]impl.Cell{usedCell(1, 1, 0, 2), usedCell(2, 0, 3, 1), usedCell(3), usedCell(4, 2)}, 0)},
	}
}

// P54: views and their heaps, written out.
func TestOneList(t *testing.T) {
	for _, c := range writtenLists() {
		got, ok := impl.HeapOf(c.list)
		if !ok || !sameHeap(got, c.want) {
			t.Errorf("%s: HeapOf(%v) = %v, %v, not %v", c.name, c.list, got, ok, c.want)
		}
		checkAccepted(t, c.list)
	}
}

// P52, P54: for many heaps the program agrees with the definition.
func TestViewsAreTheDefinition(t *testing.T) {
	eachHeap(func(h impl.Heap) { checkViews(t, h) })
	for _, c := range slices.Concat(ordinaryHeaps(), gappedHeaps()) {
		checkViews(t, c.heap)
	}
	for _, h := range slices.Concat(wideHeaps(), fullHeaps()) {
		checkViews(t, h)
	}
	for cells := 1; cells <= impl.MaxCells; cells++ {
		for _, list := range shapesOf(cells) {
			checkViews(t, heapWith(list, cells/2, -1, 0, cells-1))
		}
	}
	for _, c := range slices.Concat(readingSteps(), writingSteps(), rootSteps(), makingSteps()) {
		checkViews(t, c.heap)
		checkViews(t, c.want)
	}
	for _, c := range writtenPrograms() {
		checkViews(t, c.want)
	}
	for _, list := range longPrograms() {
		checkViews(t, impl.RunHeap(list))
	}
}

// P52: each reached cell is in the list, once, and no other one; the first ones are those of the roots.
func TestReachedCellsAreMetOnce(t *testing.T) {
	eachHeap(func(h impl.Heap) {
		met := impl.MetOrder(h)
		var roots []int
		for _, number := range h.Roots {
			if number != -1 && !slices.Contains(roots, number) {
				roots = append(roots, number)
			}
		}
		if len(met) < len(roots) || !slices.Equal(met[:len(roots)], roots) {
			t.Fatalf("MetOrder(%v) = %v, and the cells of the roots are %v", h, met, roots)
		}
		sorted := slices.Sorted(slices.Values(met))
		var reached []int
		for number, flag := range impl.Reachable(h) {
			if flag {
				reached = append(reached, number)
			}
		}
		if !slices.Equal(sorted, reached) {
			t.Fatalf("MetOrder(%v) = %v, and the reached cells are %v", h, met, reached)
		}
	})
}

// P52: a cell is met by the first of those met before it that refers to it, and by the first one of its references that leads there: nothing that is met later is found earlier.
func TestCellsAreMetInOrder(t *testing.T) {
	eachHeap(func(h impl.Heap) {
		met := impl.MetOrder(h)
		ways := slices.Clone(h.Roots)
		for _, number := range met {
			ways = append(ways, h.Cells[number].Refs...)
		}
		before := -1
		for _, number := range met {
			at := slices.Index(ways, number)
			if at <= before {
				t.Fatalf("MetOrder(%v) = %v, but by %v cell %d is met earlier", h, met, ways, number)
			}
			before = at
		}
	})
}

// longestList is how long the lists are that are looked at without exception; with it, in an array, a list can be a key.
const longestList = 9

type listKey [longestList + 1]int

func keyOf(list []int) listKey {
	key := listKey{longestList: len(list)}
	copy(key[:], list)
	return key
}

// viewsOfSmallHeaps returns the views, not longer than longestList, of all heaps whose Data are at most 3.
func viewsOfSmallHeaps() map[listKey]bool {
	views := map[listKey]bool{}
	add := func(h impl.Heap) {
		for first := range 4 {
			for second := range 4 {
				other := copyOf(h)
				for number, data := range []int{first, second}[:len(h.Cells)] {
					if other.Cells[number].Used {
						other.Cells[number].Data = data
					}
				}
				if view := viewOf(other); len(view) <= longestList {
					views[keyOf(view)] = true
				}
			}
		}
	}
	// These are enough: four roots and two cells are 8 numbers, so that the view of two cells with more than one reference is too long, and that of three cells too.
	eachHeapOf(0, impl.MaxRefs, impl.MaxRoots, add)
	eachHeapOf(1, impl.MaxRefs, impl.MaxRoots, add)
	eachHeapOf(2, 1, impl.MaxRoots, add)
	return views
}

// P54: of all short lists of small numbers exactly those are accepted that are the view of some heap.
func TestShortListsAreViewsOfHeaps(t *testing.T) {
	views := viewsOfSmallHeaps()
	accepted := 0
	list := make([]int, 0, longestList)
	var longer func()
	longer = func() {
		if views[keyOf(list)] {
			accepted++
			checkAccepted(t, list)
		} else {
			checkRefused(t, list)
		}
		if len(list) == longestList {
			return
		}
		least, most := -1, 3
		if len(list) < impl.MaxRoots {
			least, most = -2, 2
		}
		for number := least; number <= most; number++ {
			list = append(list, number)
			longer()
			list = list[:len(list)-1]
		}
	}
	longer()
	if accepted == 0 || accepted != len(views) {
		t.Fatalf("%d lists were accepted, and there are %d views", accepted, len(views))
	}
}

// listOf returns the numbers of a heap like a view, but with the cells in the order in which they stand, whether they can be reached or not.
func listOf(h impl.Heap) []int {
	list := slices.Clone(h.Roots)
	for _, c := range h.Cells {
		list = append(list, c.Data, len(c.Refs))
		list = append(list, c.Refs...)
	}
	return list
}

// P54: a list in which the cells are in another order than that in which they are met, or in which some cannot be reached, is not a view.
func TestCellsOfListsAreMetInOrder(t *testing.T) {
	accepted, refused := 0, 0
	check := func(h impl.Heap) {
		if slices.ContainsFunc(h.Cells, func(c impl.Cell) bool { return !c.Used }) {
			return
		}
		met := metOrderOf(h)
		if len(met) == len(h.Cells) && slices.IsSorted(met) {
			accepted++
			checkAccepted(t, listOf(h))
		} else {
			refused++
			checkRefused(t, listOf(h))
		}
	}
	eachHeap(check)
	for cells := 1; cells <= impl.MaxCells; cells++ {
		for _, list := range shapesOf(cells) {
			check(heapWith(list, 0, cells-1))
			check(heapWith(list, 0))
			for _, other := range elsewhere(heapWith(list, 0)) {
				check(other)
			}
		}
	}
	if accepted == 0 || refused == 0 {
		t.Errorf("%d lists were accepted, and %d refused", accepted, refused)
	}
}

// P54: a view has at most MaxCells cells.
func TestNumbersOfCellsOfViews(t *testing.T) {
	for _, cells := range slices.Concat(rangeOf(1, 140), []int{256, 1000, 100000}) {
		accepted := 0
		for _, shape := range shapesOf(cells) {
			list := listOf(heapWith(shape, 0))
			if cells > 40 {
				checkRefused(t, list)
			} else if checkList(t, list) {
				accepted++
			}
		}
		if accepted == 0 && cells <= 40 {
			t.Errorf("no list with %d cells was accepted", cells)
		}
	}
	checkRefused(t, slices.Concat([]int{0, -1, -1, -1}, slices.Repeat([]int{0, 0}, 100000)))
	checkRefused(t, slices.Concat([]int{0, -1, -1, -1}, slices.Repeat([]int{1, 1, 0}, 100000)))
}

// rangeOf returns all numbers from one to another.
func rangeOf(from, to int) []int {
	var all []int
	for number := from; number <= to; number++ {
		all = append(all, number)
	}
	return all
}

// someViews returns the views of some heaps of all kinds.
func someViews() [][]int {
	var all [][]int
	for _, c := range slices.Concat(cellsMetTwice(), cellsInOrder()) {
		all = append(all, c.view)
	}
	for _, h := range wideHeaps() {
		all = append(all, viewOf(h))
	}
	for cells := range impl.MaxCells + 1 {
		all = append(all, viewOf(mixedHeap(cells, cells)))
	}
	return all
}

// P54: no view is the beginning of another one: cut off anywhere, or with something left over, it is refused.
func TestCutViews(t *testing.T) {
	for _, view := range someViews() {
		checkAccepted(t, view)
		for many := range view {
			checkRefused(t, view[:many])
			checkList(t, view[many:])
		}
		for _, number := range slices.Concat([]int{0, 1, 2, 3, 5}, oddTargets, oddData) {
			checkRefused(t, slices.Concat(view, []int{number}))
			checkRefused(t, slices.Concat(view, []int{5, number}))
			checkRefused(t, slices.Concat(view, []int{number, 0}))
			checkRefused(t, slices.Concat(view, []int{number, 1, 0}))
		}
		for many := range 70 {
			checkRefused(t, slices.Concat(view, make([]int, many+1)))
		}
	}
}

// P54: with a number changed, left out, put in, or exchanged with the next one a view is another one, or is refused.
func TestChangedViews(t *testing.T) {
	for _, view := range someViews() {
		other := slices.Clone(view)
		for k, before := range view {
			for _, number := range slices.Concat(rangeOf(-2, 5), []int{before - 1, before + 1, ^before, before + 1<<32, before - 1<<32, before + math.MinInt, len(view)}, oddTargets, oddData) {
				other[k] = number
				checkList(t, other)
			}
			other[k] = before
			checkList(t, slices.Delete(slices.Clone(view), k, k+1))
			for number := -1; number <= 3; number++ {
				checkList(t, slices.Insert(slices.Clone(view), k, number))
			}
			if k > 0 {
				other[k-1], other[k] = other[k], other[k-1]
				checkList(t, other)
				other[k-1], other[k] = other[k], other[k-1]
			}
		}
	}
}

type refusedCase struct {
	name string
	list []int
}

// shortLists are lists that cannot be divided into roots and cells.
func shortLists() []refusedCase {
	return []refusedCase{
		{"nil", nil},
		{"no numbers", []int{}},
		{"one root", []int{-1}},
		{"two roots", []int{-1, -1}},
		{"three roots", []int{-1, -1, -1}},
		{"three roots that lead to a cell that is missing", []int{0, 0, 0}},
		{"a root without its cell", []int{0, -1, -1, -1}},
		{"a cell that ends behind Data", []int{0, -1, -1, -1, 5}},
		{"a cell that ends before its reference", []int{0, -1, -1, -1, 5, 1}},
		{"a cell that ends between its references", []int{0, -1, -1, -1, 5, 3, 0, 0}},
		{"a second cell that ends behind Data", []int{0, -1, -1, -1, 5, 1, 1, 6}},
		{"a second cell that is missing", []int{0, -1, -1, -1, 5, 1, 1}},
		{"a second cell that ends before its reference", []int{0, -1, -1, -1, 5, 1, 1, 6, 1}},
		{"a number left over behind the roots", []int{-1, -1, -1, -1, 0}},
		{"a fifth root", []int{-1, -1, -1, -1, -1}},
		{"a number left over behind a cell", []int{0, -1, -1, -1, 5, 0, 0}},
		{"a reference left over", []int{0, -1, -1, -1, 5, 1, 0, 0}},
	}
}

// oddLists are lists with numbers that a valid heap does not have.
func oddLists() []refusedCase {
	return []refusedCase{
		{"a root below -1", []int{0, -2, -1, -1, 5, 0}},
		{"the smallest number as a root", []int{0, math.MinInt, -1, -1, 5, 0}},
		{"a root that is the number of cells", []int{0, 1, -1, -1, 5, 0}},
		{"a root without any cells", []int{-1, -1, -1, 0}},
		{"the largest number as a root", []int{0, math.MaxInt, -1, -1, 5, 0}},
		{"a reference below -1", []int{0, -1, -1, -1, 5, 1, -2}},
		{"the smallest number as a reference", []int{0, -1, -1, -1, 5, 1, math.MinInt}},
		{"a reference that is the number of cells", []int{0, -1, -1, -1, 5, 1, 1}},
		{"the largest number as a reference", []int{0, -1, -1, -1, 5, 1, math.MaxInt}},
		{"Data below 0", []int{0, -1, -1, -1, -1, 0}},
		{"the smallest number as Data", []int{0, -1, -1, -1, math.MinInt, 0}},
		{"Data above MaxData", []int{0, -1, -1, -1, 100, 0}},
		{"the largest number as Data", []int{0, -1, -1, -1, math.MaxInt, 0}},
		{"a number of references below 0", []int{0, -1, -1, -1, 5, -1}},
		{"a number of references below 0 before another cell", []int{0, 1, -1, -1, 5, -1, 6, 0}},
		{"a number of references that leads back", []int{0, -1, -1, -1, 5, -2, 5, 0}},
		{"the smallest number of references", []int{0, -1, -1, -1, 5, math.MinInt}},
		{"a number of references above MaxRefs", []int{0, -1, -1, -1, 5, 4, 0, 0, 0, 0}},
		{"a number of references far above MaxRefs", []int{0, -1, -1, -1, 5, 1 << 40}},
		{"the largest number of references", []int{0, -1, -1, -1, 5, math.MaxInt}},
		{"a number of references whose last bits would do", []int{0, -1, -1, -1, 5, 1 << 32}},
	}
}

// lostLists are lists with cells that cannot be reached, or that are not in the order in which they are met.
func lostLists() []refusedCase {
	return []refusedCase{
		{"a cell that nothing leads to", []int{-1, -1, -1, -1, 5, 0}},
		{"a cell that only it refers to", []int{-1, -1, -1, -1, 5, 1, 0}},
		{"cells that only refer to each other", []int{-1, -1, -1, -1, 5, 1, 1, 6, 1, 0}},
		{"a lost cell before a reached one", []int{1, -1, -1, -1, 5, 1, 1, 6, 0}},
		{"a lost cell behind a reached one", []int{0, -1, -1, -1, 5, 0, 6, 1, 0}},
		{"a lost cell that refers to itself behind a reached one", []int{0, -1, -1, -1, 5, 0, 6, 1, 1}},
		{"roots that are met in another order", []int{1, 0, -1, -1, 5, 0, 6, 0}},
		{"later roots that are met in another order", []int{0, -1, 2, 1, 5, 0, 6, 0, 7, 0}},
		{"references that are met in another order", []int{0, -1, -1, -1, 5, 2, 2, 1, 6, 0, 7, 0}},
		{"a reference that is met before a root", []int{0, 2, -1, -1, 5, 1, 1, 6, 0, 7, 0}},
		{"cells in the order of a deep walk", []int{0, -1, -1, -1, 1, 2, 1, 3, 2, 1, 2, 3, 0, 4, 0}},
		{"the last cell first", []int{1, -1, -1, -1, 6, 0, 5, 1, 0}},
	}
}

// P54: lists that are no views, written out.
func TestListsThatAreNoViews(t *testing.T) {
	for _, c := range slices.Concat(shortLists(), oddLists(), lostLists()) {
		if h, ok := impl.HeapOf(c.list); ok || len(h.Cells) != 0 || len(h.Roots) != 0 {
			t.Errorf("%s: HeapOf(%v) = %v, %v", c.name, c.list, h, ok)
		}
		if h, ok := heapOfView(c.list); ok {
			t.Errorf("%s: %v is the view of %v", c.name, c.list, h)
		}
	}
}

// smallHeaps returns valid heaps of up to two cells whose Data are all the same.
func smallHeaps() []impl.Heap {
	var all []impl.Heap
	add := func(h impl.Heap) {
		other := copyOf(h)
		for number := range other.Cells {
			other.Cells[number].Data = 0
		}
		all = append(all, other)
	}
	eachHeapOf(0, impl.MaxRefs, impl.MaxRoots, add)
	eachHeapOf(1, 2, 3, add)
	eachHeapOf(2, 1, 2, add)
	eachHeapOf(2, 2, 1, add)
	return all
}

// SameView: of two small heaps a program sees the same exactly if their cells are in pairs, wherever they are.
func TestSameViewsAreTheDefinition(t *testing.T) {
	heaps := smallHeaps()
	same, others := 0, 0
	for k, a := range heaps {
		for _, b := range heaps[:k+1] {
			if checkSame(t, a, b) {
				same++
			} else {
				others++
			}
		}
	}
	if same <= len(heaps) || others == 0 {
		t.Errorf("%d pairs of %d heaps look the same, and %d do not", same, len(heaps), others)
	}
}

// SameView: a program does not see where the cells are, nor what cannot be reached.
func TestPlacesAreNotSeen(t *testing.T) {
	check := func(h impl.Heap) {
		view := viewOf(h)
		for _, other := range elsewhere(h) {
			if !checkSame(t, h, other) {
				t.Fatalf("%v and %v do not look the same", h, other)
			}
			if got := impl.ViewOf(other); !slices.Equal(got, view) {
				t.Fatalf("ViewOf(%v) = %v, not %v", other, got, view)
			}
		}
	}
	eachHeapOf(2, 2, 2, check)
	eachHeapOf(3, 1, 2, check)
	for _, h := range slices.Concat(wideHeaps(), fullHeaps()) {
		check(h)
	}
	for cells := range impl.MaxCells + 1 {
		for turn := range 4 {
			check(mixedHeap(cells, turn))
		}
	}
}

// heapsWithData returns valid heaps in which no two cells have the same Data.
func heapsWithData() []impl.Heap {
	var all []impl.Heap
	eachHeapOf(3, 1, 1, func(h impl.Heap) { all = append(all, copyOf(h)) })
	eachHeapOf(2, 2, 2, func(h impl.Heap) { all = append(all, copyOf(h)) })
	for _, h := range slices.Concat(wideHeaps(), []impl.Heap{mixedHeap(12, 0), mixedHeap(25, 0), mixedHeap(39, 0)}) {
		other := copyOf(h)
		for number := range other.Cells {
			if other.Cells[number].Used {
				other.Cells[number].Data = (number*7 + 3) % 100
			}
		}
		all = append(all, other)
	}
	return all
}

// checkChange fails unless a program sees the same of a heap and of the changed one exactly if that is said.
func checkChange(t *testing.T, h, changed impl.Heap, same bool) {
	t.Helper()
	if checkSame(t, h, changed) != same {
		t.Fatalf("SameView(%v, %v) = %v", h, changed, !same)
	}
}

// SameView, P52: a program sees every Data, every reference, their number, and every root, if they can be reached, and nothing else.
func TestChangesAreSeen(t *testing.T) {
	for _, h := range heapsWithData() {
		reached := reachableOf(h)
		for number, c := range h.Cells {
			if !c.Used {
				continue
			}
			other := copyOf(h)
			other.Cells[number].Data = 99 - c.Data
			checkChange(t, h, other, !reached[number])
			other = copyOf(h)
			if len(c.Refs) < impl.MaxRefs {
				other.Cells[number].Refs = slices.Concat(c.Refs, []int{-1})
				checkChange(t, h, other, !reached[number])
			}
			if len(c.Refs) > 0 {
				other.Cells[number].Refs = c.Refs[1:]
				checkChange(t, h, other, !reached[number])
				other.Cells[number].Refs = nil
				checkChange(t, h, other, !reached[number])
			}
		}
		checkTargetsAreSeen(t, h, reached)
	}
}

// checkTargetsAreSeen changes every root and reference of a heap in which no two cells have the same Data, of which these can be reached.
func checkTargetsAreSeen(t *testing.T, h impl.Heap, reached []bool) {
	t.Helper()
	targets := []int{-1}
	for number, c := range h.Cells {
		if c.Used {
			targets = append(targets, number)
		}
	}
	other := copyOf(h)
	change := func(numbers []int, seen bool) {
		for k, before := range numbers {
			for _, target := range targets {
				numbers[k] = target
				checkChange(t, h, other, !seen || target == before)
			}
			numbers[k] = before
		}
	}
	change(other.Roots, true)
	for number := range other.Cells {
		change(other.Cells[number].Refs, reached[number])
	}
}

type sameCase struct {
	name    string
	command impl.Command
	view    []int
}

// P1: an instruction of each kind in two heaps with cells at different places, written out.
func TestOneInstructionInTwoHeaps(t *testing.T) {
	a := heapWith([]impl.Cell{usedCell(5, 1, -1), usedCell(6, 0)}, 0, -1, 1)
	b := heapWith([]impl.Cell{{}, usedCell(8, 4, 1), usedCell(6, 4), {}, usedCell(5, 2, -1), usedCell(9, 5)}, 4, -1, 2)
	if !impl.SameView(a, b) || !slices.Equal(impl.ViewOf(a), []int{0, -1, 1, -1, 5, 2, 1, -1, 6, 1, 0}) {
		t.Fatalf("ViewOf(%v) = %v, and ViewOf(%v) = %v", a, impl.ViewOf(a), b, impl.ViewOf(b))
	}
	for _, c := range []sameCase{
		{"OpNew", opNew(1, 2, 7), []int{0, 1, 2, -1, 5, 2, 2, -1, 7, 2, -1, -1, 6, 1, 0}},
		{"OpNew over a cell that stays", opNew(0, 0, 7), []int{0, -1, 1, -1, 7, 0, 6, 1, 2, 5, 2, 1, -1}},
		{"OpGet", opGet(3, 0, 0), []int{0, -1, 1, 1, 5, 2, 1, -1, 6, 1, 0}},
		{"OpGet of what is -1", opGet(0, 0, 1), []int{-1, -1, 0, -1, 6, 1, 1, 5, 2, 0, -1}},
		{"OpGet that is not possible", opGet(0, 2, 1), []int{0, -1, 1, -1, 5, 2, 1, -1, 6, 1, 0}},
		{"OpSet", opSet(0, 0, 1), []int{0, -1, 1, -1, 5, 2, 1, 0, 6, 1, 0}},
		{"OpSet to -1", opSet(2, 1, 0), []int{0, -1, 1, -1, 5, 2, 1, -1, 6, 1, -1}},
		{"OpSet that is not possible", opSet(1, 0, 0), []int{0, -1, 1, -1, 5, 2, 1, -1, 6, 1, 0}},
		{"OpCopy", opCopy(0, 2), []int{0, -1, 0, -1, 6, 1, 1, 5, 2, 0, -1}},
		{"OpCopy of what is -1", opCopy(2, 3), []int{0, -1, -1, -1, 5, 2, 1, -1, 6, 1, 0}},
		{"OpDrop", opDrop(0), []int{-1, -1, 0, -1, 6, 1, 1, 5, 2, 0, -1}},
		{"OpData", opData(2, 42), []int{0, -1, 1, -1, 5, 2, 1, -1, 42, 1, 0}},
		{"OpData that is not possible", opData(3, 42), []int{0, -1, 1, -1, 5, 2, 1, -1, 6, 1, 0}},
	} {
		nextA, okA := impl.StepHeap(a, c.command)
		nextB, okB := impl.StepHeap(b, c.command)
		if okA != okB || !impl.SameView(nextA, nextB) || !impl.SameView(nextB, nextA) {
			t.Errorf("%s: after %v %v and %v do not look the same", c.name, c.command, nextA, nextB)
		}
		for _, next := range []impl.Heap{nextA, nextB} {
			if got := impl.ViewOf(next); !slices.Equal(got, c.view) {
				t.Errorf("%s: after %v ViewOf(%v) = %v, not %v", c.name, c.command, next, got, c.view)
			}
		}
	}
}

// checkGoesOn fails unless a program sees the same of two heaps after an instruction, of which it sees the same before; it returns both heaps after the instruction.
func checkGoesOn(t *testing.T, a, b impl.Heap, o impl.Command) (impl.Heap, impl.Heap) {
	t.Helper()
	if possible := impl.CommandPossible(a, o); impl.CommandPossible(b, o) != possible {
		t.Fatalf("CommandPossible(%v, %v) = %v, but not for %v", a, o, possible, b)
	}
	nextA, okA := impl.StepHeap(a, o)
	nextB, okB := impl.StepHeap(b, o)
	if okA != okB || !impl.SameView(nextA, nextB) || !slices.Equal(impl.ViewOf(nextB), viewOf(nextA)) {
		t.Fatalf("after %v %v is %v, %v, and %v is %v, %v", o, a, nextA, okA, b, nextB, okB)
	}
	return nextA, nextB
}

// bothHaveRoom reports whether two heaps have room for what an instruction makes.
func bothHaveRoom(a, b impl.Heap, o impl.Command) bool {
	return o.Op != impl.OpNew || max(len(a.Cells), len(b.Cells)) < impl.MaxCells
}

// P1: if a program sees the same of two heaps, it sees the same after any instruction, as long as there is room for new cells.
func TestEqualViewsGoOnEqually(t *testing.T) {
	commands := commandsWith(42)
	check := func(h impl.Heap) {
		for _, other := range elsewhere(h) {
			if !impl.SameView(h, other) {
				t.Fatalf("SameView(%v, %v) = false", h, other)
			}
			for _, o := range commands {
				if bothHaveRoom(h, other, o) {
					checkGoesOn(t, h, other, o)
				}
			}
		}
	}
	eachHeapOf(0, impl.MaxRefs, impl.MaxRoots, check)
	eachHeapOf(1, 2, impl.MaxRoots, check)
	eachHeapOf(2, 2, 1, check)
	eachHeapOf(2, 1, 2, check)
	for _, h := range wideHeaps() {
		check(h)
	}
	for cells := range impl.MaxCells + 1 {
		check(mixedHeap(cells, cells))
	}
}

// P1: of all small heaps of which a program sees the same, it sees the same after any instruction.
func TestAllEqualViewsGoOnEqually(t *testing.T) {
	first := map[string]impl.Heap{}
	commands := commandsWith(0)
	pairs := 0
	for _, h := range smallHeaps() {
		key := fmt.Sprint(impl.ViewOf(h))
		other, known := first[key]
		if !known {
			first[key] = h
			continue
		}
		pairs++
		for _, o := range commands {
			checkGoesOn(t, other, h, o)
		}
	}
	if pairs == 0 {
		t.Error("no two heaps have the same view")
	}
}

// P1: a program goes on equally in heaps of which it sees the same, instruction by instruction.
func TestEqualViewsGoOnEquallyForLong(t *testing.T) {
	for turn := range 40 {
		h := mixedHeap(turn/2, turn)
		list := mixedProgram(impl.MaxCommands, turn)
		for _, other := range elsewhere(h) {
			a, b := h, other
			for _, o := range list {
				if bothHaveRoom(a, b, o) {
					a, b = checkGoesOn(t, a, b, o)
				}
			}
			// And from the heap that has nothing but the view.
			c, _ := impl.HeapOf(impl.ViewOf(a))
			for _, o := range list[:10] {
				if bothHaveRoom(a, c, o) {
					a, c = checkGoesOn(t, a, c, o)
				}
			}
		}
	}
}

// P1: what is refused for want of room changes nothing that a program sees; where only one heap has room they part.
func TestEqualViewsWithoutRoom(t *testing.T) {
	few := heapWith([]impl.Cell{usedCell(5, 0)}, 0)
	full := heapWith(slices.Concat(few.Cells, make([]impl.Cell, impl.MaxCells-1)), 0)
	lost := withLostCells(full)
	for _, o := range commandsWith(0, 42) {
		a, b := checkGoesOn(t, full, lost, o)
		if o.Op == impl.OpNew && !(sameHeap(a, full) && sameHeap(b, lost)) {
			t.Fatalf("after %v %v is %v, and %v is %v", o, full, a, lost, b)
		}
		c, ok := impl.StepHeap(few, o)
		if want := o.Op != impl.OpNew; impl.SameView(a, c) != want || o.Op == impl.OpNew && !ok {
			t.Fatalf("after %v SameView(%v, %v) = %v", o, a, c, !want)
		}
	}
}

// SameView: of an invalid heap there is no view, and nothing looks the same as it, not even another invalid one.
func TestInvalidHeapsHaveNoViews(t *testing.T) {
	heaps := invalidHeaps()
	for _, h := range heaps {
		checkNoViews(t, h)
	}
	for k, a := range heaps {
		for _, b := range []impl.Heap{heaps[0], heaps[(k+1)%len(heaps)], heaps[len(heaps)-1]} {
			if impl.SameView(a, b) || impl.SameView(b, a) {
				t.Fatalf("SameView(%v, %v) = true", a, b)
			}
		}
	}
	for _, h := range wideHeaps() {
		other := copyOf(h)
		eachPlace(other, func(place *int) {
			before := *place
			for _, target := range append([]int{len(h.Cells)}, oddTargets...) {
				*place = target
				checkNoViews(t, other)
				if impl.SameView(h, other) || impl.SameView(other, h) {
					t.Fatalf("SameView of %v and %v = true", h, other)
				}
			}
			*place = before
		})
	}
}

// TestInvalidLostCellsAreSeen: a heap is invalid by what cannot be reached too, although its view would be that of a valid one.
func TestInvalidLostCellsAreSeen(t *testing.T) {
	h := heapWith([]impl.Cell{usedCell(5, 0), usedCell(6), {}}, 0)
	for _, lost := range []impl.Cell{usedCell(100), usedCell(-1), usedCell(6, 3), usedCell(6, 2), usedCell(6, -2), usedCell(6, -1, -1, -1, -1), {Data: 6}, {Refs: []int{-1}}} {
		other := copyOf(h)
		other.Cells[1] = lost
		checkNoViews(t, other)
		if impl.SameView(h, other) || impl.SameView(other, h) {
			t.Errorf("SameView of %v and %v = true", h, other)
		}
	}
	many := heapWith(slices.Concat(h.Cells, make([]impl.Cell, impl.MaxCells)), 0)
	if impl.SameView(h, many) || impl.SameView(many, h) {
		t.Errorf("SameView of %v and %v = true", h, many)
	}
}

// TestViewsReturnForAllNumbers: for every number of a heap or of a list the functions return what the chapter gives.
func TestViewsReturnForAllNumbers(t *testing.T) {
	numbers := manyNumbers()
	few := heapWith([]impl.Cell{usedCell(0, 0), {}, usedCell(99, -1, 2, 0)}, 0, -1, 2)
	for _, number := range numbers {
		for k := range few.Roots {
			other := copyOf(few)
			other.Roots[k] = number
			checkViewsOf(t, other)
		}
		for k := range few.Cells {
			for _, c := range []impl.Cell{{Data: number}, usedCell(number), usedCell(0, number), usedCell(0, -1, -1, number), {Refs: []int{number}}} {
				other := copyOf(few)
				other.Cells[k] = c
				checkViewsOf(t, other)
			}
		}
	}
	for _, view := range [][]int{{-1, -1, -1, -1}, viewOf(few), {0, 1, -1, 0, 7, 3, 1, 2, -1, 8, 0, 9, 1, 0}} {
		for k := range view {
			other := slices.Clone(view)
			for _, number := range numbers {
				other[k] = number
				checkList(t, other)
				checkList(t, other[:k+1])
			}
		}
	}
	for many := range 70 {
		checkViewsOf(t, heapWith(make([]impl.Cell, many)))
		checkViewsOf(t, impl.Heap{Cells: []impl.Cell{usedCell(0)}, Roots: manyOf(0, many)})
		for number := -2; number <= 4; number++ {
			checkList(t, manyOf(number, many))
		}
	}
}

// TestViewsOfExtremeNumbers: for heaps and lists whose numbers are all very large or very small the functions return what the chapter gives.
func TestViewsOfExtremeNumbers(t *testing.T) {
	extremes := []int{math.MinInt, math.MinInt + 1, -2, -1, 0, 1, 3, math.MaxInt - 1, math.MaxInt}
	for _, x := range extremes {
		for _, y := range extremes {
			for _, z := range extremes {
				for _, used := range []bool{false, true} {
					c := impl.Cell{Used: used, Data: x, Refs: []int{y}}
					checkViewsOf(t, heapWith([]impl.Cell{c}, z))
					checkViewsOf(t, heapWith([]impl.Cell{c, usedCell(0)}, -1, z))
				}
				for _, root := range []int{-1, 0} {
					checkList(t, []int{root, -1, -1, -1, x, y, z})
					checkList(t, []int{root, x, -1, -1, 5, y, z, 0})
				}
				checkList(t, []int{x, y, z, x, y, z, x, y, z})
			}
		}
	}
}

// P52, P54: nil and empty slices are the same.
func TestNilAndEmptySlicesOfViews(t *testing.T) {
	checkChange(t, heapWith(nil), heapWith([]impl.Cell{}), true)
	checkChange(t, heapWith([]impl.Cell{{Used: true}}, 0), heapWith([]impl.Cell{{Used: true, Refs: []int{}}}, 0), true)
	for _, cells := range [][]impl.Cell{nil, {}} {
		checkViews(t, heapWith(cells))
	}
	for _, refs := range [][]int{nil, {}} {
		checkViews(t, heapWith([]impl.Cell{{Refs: refs}, {Used: true, Refs: refs}}, 1))
	}
	checkRefused(t, nil)
	checkRefused(t, []int{})
}

// TestViewsOfHeapsThatShareMemory: the slices of an argument, and those of two, may be the same ones.
func TestViewsOfHeapsThatShareMemory(t *testing.T) {
	refs := []int{1, -1, 0, -1}
	cells := []impl.Cell{usedCell(1, refs[:3]...), usedCell(2, refs[1:]...), usedCell(3, refs[:2]...)}
	h := impl.Heap{Cells: cells, Roots: refs}
	checkViews(t, h)
	checkChange(t, h, impl.Heap{Cells: cells, Roots: slices.Clone(refs)}, true)
	checkChange(t, h, heapWith(cells, 0, 1, 2), false)
	if !slices.Equal(refs, []int{1, -1, 0, -1}) {
		t.Fatalf("the references are %v", refs)
	}
}

// checkViewsShareNothing fails if the functions of the chapter change a heap or the spare capacity of its slices, or if overwriting their results, with their spare capacity, changes the heap or another result.
func checkViewsShareNothing(t *testing.T, h impl.Heap) {
	t.Helper()
	s, other := spareOf(h), spareOf(h)
	before := s.state()
	met, view := impl.MetOrder(s.heap), impl.ViewOf(s.heap)
	otherMet, otherView := impl.MetOrder(s.heap), impl.ViewOf(s.heap)
	wantMet, wantView := slices.Clone(met), slices.Clone(view)
	impl.SameView(s.heap, other.heap)
	impl.SameView(s.heap, s.heap)
	if !slices.Equal(s.state(), before) || !slices.Equal(other.state(), before) {
		t.Fatalf("the heap %v became %v, or %v", h, s.heap, other.heap)
	}
	fillNumbers(met[:cap(met)])
	fillNumbers(view[:cap(view)])
	if !slices.Equal(s.state(), before) {
		t.Fatalf("the heap %v shares memory with a result", h)
	}
	if !slices.Equal(otherMet, wantMet) || !slices.Equal(otherView, wantView) {
		t.Fatalf("results of %v share memory", h)
	}
	if !slices.Equal(impl.MetOrder(s.heap), wantMet) || !slices.Equal(impl.ViewOf(s.heap), wantView) {
		t.Fatalf("the results of %v are others when they are overwritten", h)
	}
}

// TestViewsShareNothing: no heap changes, valid or not, not even when all results are overwritten, and neither does another result.
func TestViewsShareNothing(t *testing.T) {
	eachHeapOf(2, 2, 2, func(h impl.Heap) { checkViewsShareNothing(t, h) })
	for _, h := range slices.Concat(wideHeaps(), fullHeaps(), invalidHeaps()) {
		checkViewsShareNothing(t, h)
	}
	for cells := range impl.MaxCells + 1 {
		checkViewsShareNothing(t, mixedHeap(cells, cells))
	}
}

// checkListSharesNothing fails if HeapOf changes a list or its spare capacity, or if overwriting its result, with the spare capacity, changes the list or another result.
func checkListSharesNothing(t *testing.T, list []int) {
	t.Helper()
	part, whole := withSpare(list)
	before := slices.Clone(whole)
	h, ok := impl.HeapOf(part)
	other, _ := impl.HeapOf(part)
	want := copyOf(h)
	if !slices.Equal(whole, before) {
		t.Fatalf("the list %v became %v", before, whole)
	}
	overwriteHeap(t, h)
	if !slices.Equal(whole, before) {
		t.Fatalf("the list %v shares memory with a result", list)
	}
	if again, done := impl.HeapOf(part); done != ok || !sameHeap(other, want) || !sameHeap(again, want) {
		t.Fatalf("results of the list %v share memory", list)
	}
}

// TestListsShareNothing: no list changes, whether it is a view or not, not even when the heap is overwritten, and neither does another result.
func TestListsShareNothing(t *testing.T) {
	for _, view := range someViews() {
		checkListSharesNothing(t, view)
		for many := range view {
			checkListSharesNothing(t, view[:many])
		}
		checkListSharesNothing(t, slices.Concat(view, []int{5, 0}))
	}
	for _, c := range slices.Concat(shortLists(), oddLists(), lostLists()) {
		checkListSharesNothing(t, c.list)
	}
}
