package tests

import (
	"math"
	"slices"
	"testing"

	"loop.example/memorymanagers/impl"
)

// The instructions: opNew makes a cell, opGet makes a root what the reference of another one is, opSet makes the reference of a root what another root is.
func opNew(root, refs, data int) impl.Command {
	return impl.Command{Op: impl.OpNew, A: root, B: refs, C: data}
}

func opGet(root, from, place int) impl.Command {
	return impl.Command{Op: impl.OpGet, A: root, B: from, C: place}
}

func opSet(root, to, place int) impl.Command {
	return impl.Command{Op: impl.OpSet, A: root, B: to, C: place}
}

func opCopy(root, from int) impl.Command {
	return impl.Command{Op: impl.OpCopy, A: root, B: from}
}

func opDrop(root int) impl.Command {
	return impl.Command{Op: impl.OpDrop, A: root}
}

func opData(root, data int) impl.Command {
	return impl.Command{Op: impl.OpData, A: root, B: data}
}

// validCommand is what CommandValid must return, from its definition, with the numbers of the document.
func validCommand(o impl.Command) bool {
	root := func(number int) bool { return 0 <= number && number <= 3 }
	place := func(number int) bool { return 0 <= number && number <= 2 }
	data := func(number int) bool { return 0 <= number && number <= 99 }
	switch o.Op {
	case 1:
		return root(o.A) && 0 <= o.B && o.B <= 3 && data(o.C)
	case 2, 3:
		return root(o.A) && root(o.B) && place(o.C)
	case 4:
		return root(o.A) && root(o.B) && o.C == 0
	case 5:
		return root(o.A) && o.B == 0 && o.C == 0
	case 6:
		return root(o.A) && data(o.B) && o.C == 0
	}
	return false
}

// possibleCommand is what CommandPossible must return for a valid heap and a valid instruction, from its definition.
func possibleCommand(h impl.Heap, o impl.Command) bool {
	hasPlace := func(root int) bool {
		return h.Roots[root] != -1 && len(h.Cells[h.Roots[root]].Refs) > o.C
	}
	switch o.Op {
	case 2:
		return hasPlace(o.B)
	case 3:
		return hasPlace(o.A)
	case 6:
		return h.Roots[o.A] != -1
	}
	return true
}

// stepOf is what StepHeap must return for a valid heap and a valid instruction, from its definition.
func stepOf(h impl.Heap, o impl.Command) (impl.Heap, bool) {
	next := copyOf(h)
	if !possibleCommand(h, o) || o.Op == 1 && len(h.Cells) >= 40 {
		return next, false
	}
	switch o.Op {
	case 1:
		next.Cells = append(next.Cells, usedCell(o.C, manyOf(-1, o.B)...))
		next.Roots[o.A] = len(next.Cells) - 1
	case 2:
		next.Roots[o.A] = h.Cells[h.Roots[o.B]].Refs[o.C]
	case 3:
		next.Cells[h.Roots[o.A]].Refs[o.C] = h.Roots[o.B]
	case 4:
		next.Roots[o.A] = h.Roots[o.B]
	case 5:
		next.Roots[o.A] = -1
	case 6:
		next.Cells[h.Roots[o.A]].Data = o.B
	}
	return next, true
}

// validProgram is what CommandsValid must return, from its definition.
func validProgram(list []impl.Command) bool {
	return len(list) <= 40 && !slices.ContainsFunc(list, func(o impl.Command) bool { return !validCommand(o) })
}

// runOf is what RunHeap must return, from its definition.
func runOf(list []impl.Command) impl.Heap {
	if !validProgram(list) {
		return impl.Heap{}
	}
	h := impl.Heap{Roots: []int{-1, -1, -1, -1}}
	for _, o := range list {
		h, _ = stepOf(h, o)
	}
	return h
}

// sameCell and sameHeap compare contents: nil and empty slices are the same.
func sameCell(a, b impl.Cell) bool {
	return a.Used == b.Used && a.Data == b.Data && slices.Equal(a.Refs, b.Refs)
}

func sameHeap(a, b impl.Heap) bool {
	return slices.EqualFunc(a.Cells, b.Cells, sameCell) && slices.Equal(a.Roots, b.Roots)
}

// checkStep compares CommandPossible and StepHeap with their definitions, for valid arguments and for others.
func checkStep(t *testing.T, h impl.Heap, o impl.Command) {
	t.Helper()
	possible, ok, want := false, false, impl.Heap{}
	if validHeap(h) && validCommand(o) {
		possible = possibleCommand(h, o)
		want, ok = stepOf(h, o)
	}
	if got := impl.CommandPossible(h, o); got != possible {
		t.Fatalf("CommandPossible(%v, %v) = %v", h, o, got)
	}
	if got, done := impl.StepHeap(h, o); done != ok || !sameHeap(got, want) {
		t.Fatalf("StepHeap(%v, %v) = %v, %v, not %v, %v", h, o, got, done, want, ok)
	}
}

// checkNoStep fails unless an instruction and a heap, one of which is invalid, have the results that the chapter gives for them.
func checkNoStep(t *testing.T, h impl.Heap, o impl.Command) {
	t.Helper()
	if impl.CommandPossible(h, o) {
		t.Fatalf("CommandPossible(%v, %v) = true", h, o)
	}
	if got, ok := impl.StepHeap(h, o); ok || len(got.Cells) != 0 || len(got.Roots) != 0 {
		t.Fatalf("StepHeap(%v, %v) = %v, %v", h, o, got, ok)
	}
}

// checkProgram compares CommandsValid and RunHeap with their definitions.
func checkProgram(t *testing.T, list []impl.Command) {
	t.Helper()
	if got, want := impl.CommandsValid(list), validProgram(list); got != want {
		t.Fatalf("CommandsValid(%v) = %v", list, got)
	}
	if got, want := impl.RunHeap(list), runOf(list); !sameHeap(got, want) {
		t.Fatalf("RunHeap(%v) = %v, not %v", list, got, want)
	}
}

// checkNoProgram fails unless an invalid program has the results that the chapter gives for it.
func checkNoProgram(t *testing.T, list []impl.Command) {
	t.Helper()
	if impl.CommandsValid(list) {
		t.Fatalf("CommandsValid(%v) = true", list)
	}
	if got := impl.RunHeap(list); len(got.Cells) != 0 || len(got.Roots) != 0 {
		t.Fatalf("RunHeap(%v) = %v", list, got)
	}
}

// commandsWith returns all valid instructions in which Data is one of these numbers.
func commandsWith(data ...int) []impl.Command {
	var all []impl.Command
	for a := range 4 {
		for b := range 4 {
			for _, number := range data {
				all = append(all, opNew(a, b, number))
			}
			for c := range 3 {
				all = append(all, opGet(a, b, c), opSet(a, b, c))
			}
			all = append(all, opCopy(a, b))
		}
		for _, number := range data {
			all = append(all, opData(a, number))
		}
		all = append(all, opDrop(a))
	}
	return all
}

// allData are all numbers that a cell can have as Data.
func allData() []int {
	data := make([]int, 100)
	for number := range data {
		data[number] = number
	}
	return data
}

// fullHeaps returns heaps with one cell fewer than MaxCells, and with MaxCells cells: all used and reached, all lost, all but the first one not used, and mixed ones.
func fullHeaps() []impl.Heap {
	var all []impl.Heap
	for _, cells := range []int{impl.MaxCells - 1, impl.MaxCells} {
		for _, list := range shapesOf(cells) {
			all = append(all, heapWith(list, 0, cells-1), heapWith(list, -1, -1, cells/2))
		}
		all = append(all, heapWith(slices.Repeat([]impl.Cell{usedCell(1)}, cells)), heapWith(make([]impl.Cell, cells)))
		all = append(all, heapWith(slices.Concat([]impl.Cell{usedCell(1, 0, -1)}, make([]impl.Cell, cells-1)), 0))
		all = append(all, mixedHeap(cells, 0), mixedHeap(cells, 1))
	}
	return all
}

// eachStep calls check with many valid heaps, each with all valid instructions that have Data 0, 42 or MaxData: with all heaps of no cell and of one, with those of two and three cells that have few references or roots, and with some that are larger.
func eachStep(check func(h impl.Heap, o impl.Command)) {
	commands := commandsWith(0, 42, impl.MaxData)
	each := func(h impl.Heap) {
		for _, o := range commands {
			check(h, o)
		}
	}
	eachHeapOf(0, impl.MaxRefs, impl.MaxRoots, each)
	eachHeapOf(1, impl.MaxRefs, impl.MaxRoots, each)
	eachHeapOf(2, 2, 2, each)
	eachHeapOf(2, 1, impl.MaxRoots, each)
	eachHeapOf(2, impl.MaxRefs, 1, each)
	eachHeapOf(3, 1, 2, each)
	for cells := range impl.MaxCells + 1 {
		for turn := range 3 {
			each(mixedHeap(cells, turn))
		}
	}
	for _, h := range fullHeaps() {
		each(h)
	}
}

func TestProgramsOfTheChapter(t *testing.T) {
	if impl.OpNew != 1 || impl.OpGet != 2 || impl.OpSet != 3 || impl.OpCopy != 4 || impl.OpDrop != 5 || impl.OpData != 6 {
		t.Errorf("the operations are %d, %d, %d, %d, %d and %d", impl.OpNew, impl.OpGet, impl.OpSet, impl.OpCopy, impl.OpDrop, impl.OpData)
	}
	if impl.MaxCommands != 40 {
		t.Errorf("MaxCommands = %d", impl.MaxCommands)
	}
}

// P47: for all small numbers, in and around what any operation asks for, the program agrees with the definition.
func TestInstructionsAreTheDefinition(t *testing.T) {
	for op := -2; op <= 9; op++ {
		for a := -2; a <= 101; a++ {
			for b := -2; b <= 101; b++ {
				for c := -2; c <= 101; c++ {
					o := impl.Command{Op: op, A: a, B: b, C: c}
					if got := impl.CommandValid(o); got != validCommand(o) {
						t.Fatalf("CommandValid(%v) = %v", o, got)
					}
				}
			}
		}
	}
}

type numbersCase struct {
	name    string
	command impl.Command
	want    bool
}

// commandNumbers has the least and the greatest numbers of every operation, and those just below and above them.
func commandNumbers() []numbersCase {
	return []numbersCase{
		{"OpNew with the least numbers", impl.Command{Op: 1, A: 0, B: 0, C: 0}, true},
		{"OpNew with the greatest numbers", impl.Command{Op: 1, A: 3, B: 3, C: 99}, true},
		{"OpNew, a root too low", impl.Command{Op: 1, A: -1, B: 1, C: 1}, false},
		{"OpNew, a root too high", impl.Command{Op: 1, A: 4, B: 1, C: 1}, false},
		{"OpNew, too few references", impl.Command{Op: 1, A: 1, B: -1, C: 1}, false},
		{"OpNew, too many references", impl.Command{Op: 1, A: 1, B: 4, C: 1}, false},
		{"OpNew, Data too low", impl.Command{Op: 1, A: 1, B: 1, C: -1}, false},
		{"OpNew, Data too high", impl.Command{Op: 1, A: 1, B: 1, C: 100}, false},
		{"OpGet with the least numbers", impl.Command{Op: 2, A: 0, B: 0, C: 0}, true},
		{"OpGet with the greatest numbers", impl.Command{Op: 2, A: 3, B: 3, C: 2}, true},
		{"OpGet, root A too low", impl.Command{Op: 2, A: -1, B: 1, C: 1}, false},
		{"OpGet, root A too high", impl.Command{Op: 2, A: 4, B: 1, C: 1}, false},
		{"OpGet, root B too low", impl.Command{Op: 2, A: 1, B: -1, C: 1}, false},
		{"OpGet, root B too high", impl.Command{Op: 2, A: 1, B: 4, C: 1}, false},
		{"OpGet, a place too low", impl.Command{Op: 2, A: 1, B: 1, C: -1}, false},
		{"OpGet, a place too high", impl.Command{Op: 2, A: 1, B: 1, C: 3}, false},
		{"OpSet with the least numbers", impl.Command{Op: 3, A: 0, B: 0, C: 0}, true},
		{"OpSet with the greatest numbers", impl.Command{Op: 3, A: 3, B: 3, C: 2}, true},
		{"OpSet, root A too low", impl.Command{Op: 3, A: -1, B: 1, C: 1}, false},
		{"OpSet, root A too high", impl.Command{Op: 3, A: 4, B: 1, C: 1}, false},
		{"OpSet, root B too low", impl.Command{Op: 3, A: 1, B: -1, C: 1}, false},
		{"OpSet, root B too high", impl.Command{Op: 3, A: 1, B: 4, C: 1}, false},
		{"OpSet, a place too low", impl.Command{Op: 3, A: 1, B: 1, C: -1}, false},
		{"OpSet, a place too high", impl.Command{Op: 3, A: 1, B: 1, C: 3}, false},
		{"OpCopy with the least numbers", impl.Command{Op: 4, A: 0, B: 0}, true},
		{"OpCopy with the greatest numbers", impl.Command{Op: 4, A: 3, B: 3}, true},
		{"OpCopy, root A too low", impl.Command{Op: 4, A: -1, B: 1}, false},
		{"OpCopy, root A too high", impl.Command{Op: 4, A: 4, B: 1}, false},
		{"OpCopy, root B too low", impl.Command{Op: 4, A: 1, B: -1}, false},
		{"OpCopy, root B too high", impl.Command{Op: 4, A: 1, B: 4}, false},
		{"OpCopy with C below 0", impl.Command{Op: 4, A: 1, B: 1, C: -1}, false},
		{"OpCopy with C above 0", impl.Command{Op: 4, A: 1, B: 1, C: 1}, false},
		{"OpDrop with the least root", impl.Command{Op: 5, A: 0}, true},
		{"OpDrop with the greatest root", impl.Command{Op: 5, A: 3}, true},
		{"OpDrop, a root too low", impl.Command{Op: 5, A: -1}, false},
		{"OpDrop, a root too high", impl.Command{Op: 5, A: 4}, false},
		{"OpDrop with B below 0", impl.Command{Op: 5, A: 1, B: -1}, false},
		{"OpDrop with B above 0", impl.Command{Op: 5, A: 1, B: 1}, false},
		{"OpDrop with C below 0", impl.Command{Op: 5, A: 1, C: -1}, false},
		{"OpDrop with C above 0", impl.Command{Op: 5, A: 1, C: 1}, false},
		{"OpData with the least numbers", impl.Command{Op: 6, A: 0, B: 0}, true},
		{"OpData with the greatest numbers", impl.Command{Op: 6, A: 3, B: 99}, true},
		{"OpData, a root too low", impl.Command{Op: 6, A: -1, B: 1}, false},
		{"OpData, a root too high", impl.Command{Op: 6, A: 4, B: 1}, false},
		{"OpData, Data too low", impl.Command{Op: 6, A: 1, B: -1}, false},
		{"OpData, Data too high", impl.Command{Op: 6, A: 1, B: 100}, false},
		{"OpData with C below 0", impl.Command{Op: 6, A: 1, B: 1, C: -1}, false},
		{"OpData with C above 0", impl.Command{Op: 6, A: 1, B: 1, C: 1}, false},
		{"the zero value", impl.Command{}, false},
		{"an operation below OpNew", impl.Command{Op: 0, A: 1, B: 1, C: 1}, false},
		{"an operation far below OpNew", impl.Command{Op: -1}, false},
		{"an operation above OpData", impl.Command{Op: 7}, false},
		{"an operation above OpData with other numbers", impl.Command{Op: 7, A: 1, B: 1, C: 1}, false},
	}
}

// P47, P48, P49: the least and the greatest numbers of an instruction, written out.
func TestOneInstruction(t *testing.T) {
	// All instructions with these numbers are possible: every root is a cell with three references.
	h := heapWith([]impl.Cell{usedCell(5, 0, 0, 0)}, 0, 0, 0, 0)
	for _, c := range commandNumbers() {
		if got := impl.CommandValid(c.command); got != c.want {
			t.Errorf("%s: CommandValid(%v) = %v", c.name, c.command, got)
		}
		if got := impl.CommandsValid([]impl.Command{c.command}); got != c.want {
			t.Errorf("%s: CommandsValid of %v alone = %v", c.name, c.command, got)
		}
		if got := impl.CommandPossible(h, c.command); got != c.want {
			t.Errorf("%s: CommandPossible(%v, %v) = %v", c.name, h, c.command, got)
		}
		if got, ok := impl.StepHeap(h, c.command); ok != c.want || !c.want && (len(got.Cells) != 0 || len(got.Roots) != 0) {
			t.Errorf("%s: StepHeap(%v, %v) = %v, %v", c.name, h, c.command, got, ok)
		}
		wantRoots := 0
		if c.want {
			wantRoots = 4
		}
		if got := impl.RunHeap([]impl.Command{c.command}); len(got.Roots) != wantRoots {
			t.Errorf("%s: RunHeap of %v alone = %v", c.name, c.command, got)
		}
	}
}

// eachNumber calls check with an instruction and the place of every one of its four numbers; check may write to the place.
func eachNumber(o impl.Command, check func(o *impl.Command, place *int)) {
	for _, placeOf := range []func(o *impl.Command) *int{
		func(o *impl.Command) *int { return &o.Op },
		func(o *impl.Command) *int { return &o.A },
		func(o *impl.Command) *int { return &o.B },
		func(o *impl.Command) *int { return &o.C },
	} {
		other := o
		check(&other, placeOf(&other))
	}
}

// oddCommands returns invalid instructions: valid ones of every operation in which one number is another one, also such whose last bits would do.
func oddCommands() []impl.Command {
	var all []impl.Command
	for _, valid := range []impl.Command{opNew(0, 0, 0), opNew(3, 2, 1), opGet(0, 0, 0), opGet(1, 2, 1), opSet(0, 0, 0), opSet(2, 1, 2), opCopy(0, 0), opCopy(1, 3), opDrop(0), opDrop(2), opData(0, 0), opData(3, 99)} {
		eachNumber(valid, func(o *impl.Command, place *int) {
			before := *place
			for _, number := range []int{-1, 0, 1, 3, 4, 7, 40, 99, 100, ^before, -before, before + 8, before + 128, before + 256, before + 1<<16, before + 1<<32, before - 1<<32, before + math.MinInt, math.MinInt, math.MinInt + 1, math.MaxInt - 1, math.MaxInt} {
				*place = number
				if !validCommand(*o) {
					all = append(all, *o)
				}
			}
		})
	}
	return all
}

// P47: an instruction for a root that does not exist is invalid, and so is one with an unknown operation.
func TestInstructionsHaveRoots(t *testing.T) {
	for _, o := range commandsWith(allData()...) {
		if !impl.CommandValid(o) {
			t.Fatalf("CommandValid(%v) = false", o)
		}
		for _, number := range []int{-1, -2, 4, 5, 100, 256 + o.A, 1<<32 + o.A, o.A - 1<<32, math.MinInt, math.MaxInt} {
			other := o
			other.A = number
			if impl.CommandValid(other) {
				t.Fatalf("CommandValid(%v) = true", other)
			}
			if o.Op == impl.OpGet || o.Op == impl.OpSet || o.Op == impl.OpCopy {
				other = o
				other.B = number
				if impl.CommandValid(other) {
					t.Fatalf("CommandValid(%v) = true", other)
				}
			}
		}
		for _, number := range []int{0, -1, -o.Op, 7, 8, 256 + o.Op, 1<<32 + o.Op, o.Op - 1<<32, math.MinInt, math.MaxInt} {
			other := o
			other.Op = number
			if impl.CommandValid(other) {
				t.Fatalf("CommandValid(%v) = true", other)
			}
		}
	}
	for _, o := range oddCommands() {
		if impl.CommandValid(o) {
			t.Fatalf("CommandValid(%v) = true", o)
		}
	}
}

// mixedProgram returns a valid program with a number of instructions that follows no visible rule, another one for every turn.
func mixedProgram(many, turn int) []impl.Command {
	state := uint32(many*1000 + turn)
	next := func(below int) int {
		state = state*1664525 + 1013904223
		return int(state>>16) % below
	}
	list := make([]impl.Command, many)
	for k := range list {
		// New cells and references come more often than the others, so that there is something to get.
		switch next(10) {
		case 0, 1, 2:
			list[k] = opNew(next(4), next(4), next(100))
		case 3, 4, 5:
			list[k] = opSet(next(4), next(4), next(3))
		case 6, 7:
			list[k] = opGet(next(4), next(4), next(3))
		case 8:
			list[k] = []impl.Command{opCopy(next(4), next(4)), opDrop(next(4))}[next(2)]
		default:
			list[k] = opData(next(4), next(100))
		}
	}
	return list
}

// longPrograms returns valid programs with every number of instructions up to MaxCommands: mixed ones, such with one instruction again and again, and such in which instructions are passed over.
func longPrograms() [][]impl.Command {
	var all [][]impl.Command
	for many := range impl.MaxCommands + 1 {
		for turn := range 20 {
			all = append(all, mixedProgram(many, turn))
		}
		for _, o := range []impl.Command{opNew(0, 0, 0), opNew(3, 3, 99), opGet(0, 1, 0), opSet(1, 0, 2), opCopy(2, 1), opDrop(1), opData(0, 5)} {
			all = append(all, slices.Repeat([]impl.Command{o}, many))
		}
		// A chain that grows at its beginning, and is then followed to its end and beyond it.
		chain := slices.Repeat([]impl.Command{opNew(1, 1, many), opSet(1, 0, 0), opCopy(0, 1)}, many/4)
		all = append(all, slices.Concat(chain, slices.Repeat([]impl.Command{opGet(0, 0, 0)}, many-len(chain))))
	}
	return all
}

// eachProgram calls check with all programs of up to three instructions out of some, and with long ones.
func eachProgram(check func(list []impl.Command)) {
	commands := []impl.Command{
		opNew(0, 0, 0), opNew(0, 1, 7), opNew(1, 2, 99), opNew(3, 3, 1), opGet(0, 0, 0), opGet(1, 0, 0), opGet(0, 1, 1), opGet(3, 3, 2), opSet(0, 0, 0), opSet(0, 1, 0), opSet(1, 0, 1), opSet(3, 3, 2),
		opSet(1, 2, 0), opCopy(0, 0), opCopy(1, 0), opCopy(0, 2), opCopy(3, 1), opDrop(0), opDrop(1), opDrop(3), opData(0, 0), opData(0, 99), opData(1, 50), opData(3, 3),
	}
	list := make([]impl.Command, 0, 3)
	var longer func()
	longer = func() {
		check(list)
		if len(list) == cap(list) {
			return
		}
		for _, o := range commands {
			list = append(list, o)
			longer()
			list = list[:len(list)-1]
		}
	}
	longer()
	for _, list := range longPrograms() {
		check(list)
	}
}

// P48: a part of a valid program is valid; with an invalid instruction, wherever it stands, it is not, nor is a part that has it.
func TestProgramsHaveInstructions(t *testing.T) {
	odd := oddCommands()
	for turn, many := range []int{1, 2, 3, 7, impl.MaxCommands - 1, impl.MaxCommands} {
		list := mixedProgram(many, turn)
		for from := range many + 1 {
			for to := from; to <= many; to++ {
				if !impl.CommandsValid(list[from:to]) {
					t.Fatalf("CommandsValid(%v) = false", list[from:to])
				}
			}
		}
		for k := range list {
			other := slices.Clone(list)
			for _, o := range odd {
				other[k] = o
				checkNoProgram(t, other)
			}
			for from := range many + 1 {
				for to := from; to <= many; to++ {
					if got := impl.CommandsValid(other[from:to]); got != (k < from || k >= to) {
						t.Fatalf("CommandsValid(%v) = %v", other[from:to], got)
					}
				}
			}
		}
	}
}

// P48: there are at most MaxCommands instructions, whatever they are.
func TestNumbersOfInstructions(t *testing.T) {
	for _, o := range []impl.Command{opNew(0, 3, 0), opGet(0, 0, 0), opSet(0, 0, 0), opCopy(0, 0), opDrop(0), opData(0, 0)} {
		for many := range 140 {
			list := slices.Repeat([]impl.Command{o}, many)
			if many <= 40 {
				checkProgram(t, list)
			} else {
				checkNoProgram(t, list)
			}
		}
		for _, many := range []int{256, 257, 1 << 16, 100000} {
			checkNoProgram(t, slices.Repeat([]impl.Command{o}, many))
		}
	}
	if !impl.CommandsValid(nil) || !impl.CommandsValid([]impl.Command{}) {
		t.Error("a program without instructions is not valid")
	}
	if impl.CommandsValid(make([]impl.Command, 1)) || impl.CommandsValid(make([]impl.Command, impl.MaxCommands+1)) {
		t.Error("a program of zero values is valid")
	}
}

type stepCase struct {
	name    string
	heap    impl.Heap
	command impl.Command
	want    impl.Heap
	ok      bool
}

// readingSteps are steps with OpGet.
func readingSteps() []stepCase {
	one := heapWith([]impl.Cell{usedCell(5, -1, 0)}, 0)
	two := heapWith([]impl.Cell{usedCell(5, 1, -1), usedCell(6)}, 0, -1, 1)
	return []stepCase{
		{"get a reference", two, opGet(1, 0, 0), heapWith(two.Cells, 0, 1, 1), true},
		{"get a reference into a root that has a cell", two, opGet(2, 0, 0), heapWith(two.Cells, 0, -1, 1), true},
		{"get a reference into the root that is read", two, opGet(0, 0, 0), heapWith(two.Cells, 1, -1, 1), true},
		{"get a reference of a cell to itself", one, opGet(3, 0, 1), heapWith(one.Cells, 0, -1, -1, 0), true},
		{"get a reference of a cell to itself into the root that is read", one, opGet(0, 0, 1), one, true},
		{"get a reference that is -1", two, opGet(2, 0, 1), heapWith(two.Cells, 0), true},
		{"get a reference that is -1 into the root that is read", two, opGet(0, 0, 1), heapWith(two.Cells, -1, -1, 1), true},
		{"get from a root that is -1", two, opGet(0, 1, 0), two, false},
		{"get from a root that is -1 into itself", two, opGet(3, 3, 0), two, false},
		{"get from a cell without references", two, opGet(0, 2, 0), two, false},
		{"get from a place behind the last reference", two, opGet(1, 0, 2), two, false},
		{"get in a heap without cells", heapWith(nil), opGet(0, 0, 0), heapWith(nil), false},
	}
}

// writingSteps are steps with OpSet and OpData.
func writingSteps() []stepCase {
	two := heapWith([]impl.Cell{usedCell(5, 1, -1), usedCell(6)}, 0, -1, 1)
	twoRoots := heapWith([]impl.Cell{usedCell(5, -1, -1)}, 0, -1, 0)
	return []stepCase{
		{"set a reference", two, opSet(0, 2, 1), heapWith([]impl.Cell{usedCell(5, 1, 1), usedCell(6)}, 0, -1, 1), true},
		{"set a reference to what it is", two, opSet(0, 2, 0), two, true},
		{"set a reference to its own cell", two, opSet(0, 0, 0), heapWith([]impl.Cell{usedCell(5, 0, -1), usedCell(6)}, 0, -1, 1), true},
		{"set a reference to its own cell by another root", twoRoots, opSet(2, 0, 1), heapWith([]impl.Cell{usedCell(5, -1, 0)}, 0, -1, 0), true},
		{"set a reference to -1 again", two, opSet(0, 1, 0), heapWith([]impl.Cell{usedCell(5, -1, -1), usedCell(6)}, 0, -1, 1), true},
		{"set a reference that is -1 to -1", two, opSet(0, 3, 1), two, true},
		{"set a reference of a root that is -1", two, opSet(1, 0, 0), two, false},
		{"set a reference of a root that is -1 to itself", two, opSet(3, 3, 0), two, false},
		{"set a reference of a cell without references", two, opSet(2, 0, 0), two, false},
		{"set a place behind the last reference", two, opSet(0, 2, 2), two, false},
		{"set in a heap without cells", heapWith(nil), opSet(0, 0, 0), heapWith(nil), false},
		{"change Data", two, opData(0, 42), heapWith([]impl.Cell{usedCell(42, 1, -1), usedCell(6)}, 0, -1, 1), true},
		{"change Data to 0", two, opData(2, 0), heapWith([]impl.Cell{usedCell(5, 1, -1), usedCell(0)}, 0, -1, 1), true},
		{"change Data to MaxData", two, opData(2, 99), heapWith([]impl.Cell{usedCell(5, 1, -1), usedCell(99)}, 0, -1, 1), true},
		{"change Data to what it is", two, opData(0, 5), two, true},
		{"change Data of a root that is -1", two, opData(1, 42), two, false},
		{"change Data in a heap without cells", heapWith(nil), opData(0, 42), heapWith(nil), false},
	}
}

// rootSteps are steps with OpCopy and OpDrop.
func rootSteps() []stepCase {
	two := heapWith([]impl.Cell{usedCell(5, 1, -1), usedCell(6)}, 0, -1, 1)
	return []stepCase{
		{"copy a root", two, opCopy(1, 2), heapWith(two.Cells, 0, 1, 1), true},
		{"copy a root over another one", two, opCopy(0, 2), heapWith(two.Cells, 1, -1, 1), true},
		{"copy a root to itself", two, opCopy(2, 2), two, true},
		{"copy a root that is -1", two, opCopy(0, 1), heapWith(two.Cells, -1, -1, 1), true},
		{"copy a root that is -1 to itself", two, opCopy(1, 1), two, true},
		{"copy a root that is -1 to another one", two, opCopy(1, 3), two, true},
		{"copy a root in a heap without cells", heapWith(nil), opCopy(0, 3), heapWith(nil), true},
		{"drop a root", two, opDrop(0), heapWith(two.Cells, -1, -1, 1), true},
		{"drop one of two roots of a cell", heapWith(two.Cells, 1, 1), opDrop(1), heapWith(two.Cells, 1), true},
		{"drop a root that is -1", two, opDrop(1), two, true},
		{"drop a root in a heap without cells", heapWith(nil), opDrop(3), heapWith(nil), true},
	}
}

// makingSteps are steps with OpNew.
func makingSteps() []stepCase {
	gap := heapWith([]impl.Cell{{}, usedCell(6), {}}, 1)
	few := slices.Repeat([]impl.Cell{usedCell(7)}, impl.MaxCells-1)
	full := slices.Concat(few, []impl.Cell{{}})
	return []stepCase{
		{"a cell in a heap without cells", heapWith(nil), opNew(0, 2, 5), heapWith([]impl.Cell{usedCell(5, -1, -1)}, 0), true},
		{"a cell without references", heapWith(nil), opNew(3, 0, 5), heapWith([]impl.Cell{usedCell(5)}, -1, -1, -1, 0), true},
		{"a cell with MaxRefs references", heapWith(nil), opNew(2, 3, 5), heapWith([]impl.Cell{usedCell(5, -1, -1, -1)}, -1, -1, 0), true},
		{"a cell with Data 0", heapWith(nil), opNew(1, 1, 0), heapWith([]impl.Cell{usedCell(0, -1)}, -1, 0), true},
		{"a cell with Data MaxData", heapWith(nil), opNew(1, 1, 99), heapWith([]impl.Cell{usedCell(99, -1)}, -1, 0), true},
		{"a cell without anything", heapWith(nil), opNew(0, 0, 0), heapWith([]impl.Cell{usedCell(0)}, 0), true},
		{"a cell into a root that has one", gap, opNew(0, 1, 5), heapWith([]impl.Cell{{}, usedCell(6), {}, usedCell(5, -1)}, 3), true},
		{"a cell into another root", gap, opNew(2, 1, 5), heapWith([]impl.Cell{{}, usedCell(6), {}, usedCell(5, -1)}, 1, -1, 3), true},
		{"the last cell for which there is room", heapWith(few, 0), opNew(1, 0, 8), heapWith(slices.Concat(few, []impl.Cell{usedCell(8)}), 0, 39), true},
		{"a cell for which there is no room", heapWith(slices.Concat(few, few[:1]), 0), opNew(1, 0, 8), heapWith(slices.Concat(few, few[:1]), 0), false},
		{"a cell for which there is only a place that is not used", heapWith(full, 0), opNew(1, 0, 8), heapWith(full, 0), false},
		{"a cell for which there are only places that are not used", heapWith(make([]impl.Cell, impl.MaxCells)), opNew(0, 0, 0), heapWith(make([]impl.Cell, impl.MaxCells)), false},
	}
}

// P49, P50, P118, P119: the results of single steps, written out.
func TestOneStep(t *testing.T) {
	for _, c := range slices.Concat(readingSteps(), writingSteps(), rootSteps(), makingSteps()) {
		if got, ok := impl.StepHeap(c.heap, c.command); ok != c.ok || !sameHeap(got, c.want) {
			t.Errorf("%s: StepHeap(%v, %v) = %v, %v, not %v, %v", c.name, c.heap, c.command, got, ok, c.want, c.ok)
		}
		// Only room can keep a possible instruction from being executed, and only OpNew needs it.
		if got := impl.CommandPossible(c.heap, c.command); got != (c.ok || c.command.Op == impl.OpNew) {
			t.Errorf("%s: CommandPossible(%v, %v) = %v", c.name, c.heap, c.command, got)
		}
	}
}

// P49, P50: for many heaps, and all instructions with them, the program agrees with the definition.
func TestStepsAreTheDefinition(t *testing.T) {
	eachStep(func(h impl.Heap, o impl.Command) { checkStep(t, h, o) })
	commands := commandsWith(allData()...)
	for _, h := range []impl.Heap{heapWith(nil), heapWith([]impl.Cell{usedCell(0, 0, -1), {}, usedCell(99, 0, 2, 0), usedCell(1)}, 0, 2, -1, 3), mixedHeap(impl.MaxCells-1, 1), mixedHeap(impl.MaxCells, 0)} {
		for _, o := range commands {
			checkStep(t, h, o)
		}
	}
}

// P49: StepHeap returns true exactly if the instruction is possible, and there is room for a new cell.
func TestPossibleInstructionsAreExecuted(t *testing.T) {
	eachStep(func(h impl.Heap, o impl.Command) {
		possible := impl.CommandPossible(h, o)
		if possible != possibleCommand(h, o) {
			t.Fatalf("CommandPossible(%v, %v) = %v", h, o, possible)
		}
		next, ok := impl.StepHeap(h, o)
		if room := o.Op != impl.OpNew || len(h.Cells) < impl.MaxCells; ok != (possible && room) {
			t.Fatalf("StepHeap(%v, %v) = %v, %v", h, o, next, ok)
		}
		if !ok && !sameHeap(next, h) {
			t.Fatalf("StepHeap(%v, %v) = %v, false", h, o, next)
		}
	})
}

// P50: the heap stays valid; no cell is freed, and no cell but that of root A changes; only root A changes, and no root with OpSet and OpData.
func TestStepsKeepHeapsValid(t *testing.T) {
	eachStep(func(h impl.Heap, o impl.Command) {
		next, ok := impl.StepHeap(h, o)
		if !impl.HeapValid(next) || !validHeap(next) {
			t.Fatalf("StepHeap(%v, %v) = %v, %v", h, o, next, ok)
		}
		for number, c := range h.Cells {
			changes := number == h.Roots[o.A] && (o.Op == impl.OpSet || o.Op == impl.OpData)
			if next.Cells[number].Used != c.Used || !changes && !sameCell(next.Cells[number], c) {
				t.Fatalf("StepHeap(%v, %v) = %v, and cell %d has changed", h, o, next, number)
			}
		}
		for k, number := range h.Roots {
			changes := k == o.A && o.Op != impl.OpSet && o.Op != impl.OpData
			if !changes && next.Roots[k] != number {
				t.Fatalf("StepHeap(%v, %v) = %v, and root %d has changed", h, o, next, k)
			}
		}
		more := len(next.Cells) - len(h.Cells)
		if more != 0 && (more != 1 || o.Op != impl.OpNew) || more == 0 && ok && o.Op == impl.OpNew {
			t.Fatalf("StepHeap(%v, %v) = %v: %d cells more", h, o, next, more)
		}
	})
}

// P51: the heap after a program is that after its last instruction, in the heap after those before it.
func TestProgramsRunStepByStep(t *testing.T) {
	eachProgram(func(list []impl.Command) {
		checkProgram(t, list)
		if len(list) == 0 {
			return
		}
		last := len(list) - 1
		want, _ := impl.StepHeap(impl.RunHeap(list[:last]), list[last])
		if got := impl.RunHeap(list); !sameHeap(got, want) {
			t.Fatalf("RunHeap(%v) = %v, not %v", list, got, want)
		}
	})
	for _, list := range longPrograms() {
		h := impl.EmptyHeap()
		for k, o := range list {
			h, _ = impl.StepHeap(h, o)
			if got := impl.RunHeap(list[:k+1]); !sameHeap(got, h) {
				t.Fatalf("RunHeap(%v) = %v, not %v", list[:k+1], got, h)
			}
		}
	}
}

// P51: an instruction that is not possible is passed over, wherever it stands.
func TestInstructionsArePassedOver(t *testing.T) {
	commands := commandsWith(0, 99)
	for _, many := range []int{0, 1, 2, 5, 12, impl.MaxCommands - 1} {
		for turn := range 8 {
			list := mixedProgram(many, turn)
			for k := range many + 1 {
				before := runOf(list[:k])
				for _, o := range commands {
					if possibleCommand(before, o) {
						continue
					}
					if got, want := impl.RunHeap(slices.Insert(slices.Clone(list), k, o)), runOf(list); !sameHeap(got, want) {
						t.Fatalf("RunHeap(%v) with %v before instruction %d = %v, not %v", list, o, k, got, want)
					}
				}
			}
		}
	}
}

type programCase struct {
	name string
	list []impl.Command
	want impl.Heap
}

// writtenPrograms are valid programs and the heaps after them.
func writtenPrograms() []programCase {
	var forty []impl.Cell
	for range impl.MaxCommands {
		forty = append(forty, usedCell(9, -1))
	}
	return []programCase{
		{"no instructions", nil, heapWith(nil)},
		{"an empty list of instructions", []impl.Command{}, heapWith(nil)},
		{"one new cell", []impl.Command{opNew(2, 1, 4)}, heapWith([]impl.Cell{usedCell(4, -1)}, -1, -1, 0)},
		{"one instruction that is passed over", []impl.Command{opData(0, 4)}, heapWith(nil)},
		{"one instruction without an effect that shows", []impl.Command{opDrop(0)}, heapWith(nil)},
		{"MaxCommands new cells", slices.Repeat([]impl.Command{opNew(0, 1, 9)}, impl.MaxCommands), heapWith(forty, 39)},
		{"MaxCommands instructions that are passed over", slices.Repeat([]impl.Command{opGet(0, 0, 0)}, impl.MaxCommands), heapWith(nil)},
		{"a new cell behind one that is lost", []impl.Command{opNew(0, 1, 1), opDrop(0), opNew(0, 2, 2)}, heapWith([]impl.Cell{usedCell(1, -1), usedCell(2, -1, -1)}, 1)},
		{"a cycle that is lost", []impl.Command{opNew(0, 1, 1), opSet(0, 0, 0), opDrop(0), opData(0, 9)}, heapWith([]impl.Cell{usedCell(1, 0)})},
		{"two cells that refer to each other", []impl.Command{opNew(0, 1, 1), opNew(1, 1, 2), opSet(0, 1, 0), opSet(1, 0, 0), opDrop(1)}, heapWith([]impl.Cell{usedCell(1, 1), usedCell(2, 0)}, 0)},
		{"a reference that is set and made -1 again", []impl.Command{opNew(0, 2, 1), opSet(0, 0, 1), opSet(0, 3, 1)}, heapWith([]impl.Cell{usedCell(1, -1, -1)}, 0)},
		{"a chain that is followed beyond its end", []impl.Command{opNew(0, 1, 1), opNew(1, 1, 2), opSet(1, 0, 0), opGet(1, 1, 0), opGet(1, 1, 0), opGet(1, 1, 0)}, heapWith([]impl.Cell{usedCell(1, -1), usedCell(2, 0)}, 0)},
		{"instructions that are passed over between others", []impl.Command{opData(1, 9), opNew(0, 0, 1), opSet(0, 0, 0), opCopy(1, 0), opGet(0, 1, 0), opData(1, 3), opSet(2, 0, 0)}, heapWith([]impl.Cell{usedCell(3)}, 0, 0)},
		{"a cell changed by two roots", []impl.Command{opNew(0, 1, 1), opCopy(3, 0), opData(3, 8), opSet(0, 3, 0), opDrop(0)}, heapWith([]impl.Cell{usedCell(8, 0)}, -1, -1, -1, 0)},
	}
}

// P48, P51: the heaps after some programs, written out.
func TestOneProgram(t *testing.T) {
	for _, c := range writtenPrograms() {
		if !impl.CommandsValid(c.list) {
			t.Errorf("%s: CommandsValid(%v) = false", c.name, c.list)
		}
		if got := impl.RunHeap(c.list); !sameHeap(got, c.want) {
			t.Errorf("%s: RunHeap(%v) = %v, not %v", c.name, c.list, got, c.want)
		}
	}
	checkNoProgram(t, slices.Repeat([]impl.Command{opNew(0, 1, 9)}, impl.MaxCommands+1))
	checkNoProgram(t, slices.Repeat([]impl.Command{opGet(0, 0, 0)}, impl.MaxCommands+1))
	checkNoProgram(t, []impl.Command{opNew(0, 1, 9), {}})
	checkNoProgram(t, []impl.Command{{Op: impl.OpDrop, A: -1}, opNew(0, 1, 9)})
}

// P118: after OpNew root A is a cell that is used and can be reached, with Data and references as asked for; it is a further cell, to which nothing else leads.
func TestNewCellsLive(t *testing.T) {
	made := 0
	eachStep(func(h impl.Heap, o impl.Command) {
		if o.Op != impl.OpNew || len(h.Cells) == impl.MaxCells {
			return
		}
		made++
		next, ok := impl.StepHeap(h, o)
		number := len(h.Cells)
		if !ok || len(next.Cells) != number+1 || next.Roots[o.A] != number {
			t.Fatalf("StepHeap(%v, %v) = %v, %v", h, o, next, ok)
		}
		c := next.Cells[number]
		if !c.Used || c.Data != o.C || !slices.Equal(c.Refs, manyOf(-1, o.B)) {
			t.Fatalf("StepHeap(%v, %v) = %v, with the cell %v", h, o, next, c)
		}
		if !impl.Reachable(next)[number] || !reachableOf(next)[number] || leadingTo(next, number) != 1 {
			t.Fatalf("StepHeap(%v, %v) = %v, in which the new cell cannot be reached, or is not new", h, o, next)
		}
	})
	if made == 0 {
		t.Error("no cell was made")
	}
}

// P119: after OpDrop no cell can be reached that could not be reached before; and after OpGet neither.
func TestDroppingKeepsNothingAlive(t *testing.T) {
	lost := 0
	eachStep(func(h impl.Heap, o impl.Command) {
		if o.Op != impl.OpDrop && o.Op != impl.OpGet {
			return
		}
		next, _ := impl.StepHeap(h, o)
		before, after := impl.Reachable(h), impl.Reachable(next)
		if len(before) != len(after) || !slices.Equal(after, reachableOf(next)) {
			t.Fatalf("StepHeap(%v, %v) = %v, of which %v can be reached", h, o, next, after)
		}
		for number := range before {
			if after[number] && !before[number] {
				t.Fatalf("StepHeap(%v, %v) = %v, in which cell %d can be reached", h, o, next, number)
			}
			if before[number] && !after[number] {
				lost++
			}
		}
		if o.Op == impl.OpDrop && next.Roots[o.A] != -1 {
			t.Fatalf("StepHeap(%v, %v) = %v", h, o, next)
		}
	})
	if lost == 0 {
		t.Error("no cell was lost")
	}
}

// invalidHeaps returns heaps that are invalid in one way: in the number of cells or roots, in a root or a reference, and in Data or references of a cell that is used, and of one that is not.
func invalidHeaps() []impl.Heap {
	base := heapWith([]impl.Cell{usedCell(5, 1, -1), usedCell(6, 0), {}, usedCell(7)}, 0, 1)
	all := []impl.Heap{{}, {Cells: base.Cells}}
	for _, many := range []int{1, 3, 5, 8, 1000} {
		all = append(all, impl.Heap{Cells: base.Cells, Roots: manyOf(-1, many)}, impl.Heap{Cells: base.Cells, Roots: manyOf(0, many)})
	}
	for _, many := range []int{impl.MaxCells + 1, impl.MaxCells + 2, 64, 1000} {
		all = append(all, heapWith(make([]impl.Cell, many)), heapWith(slices.Repeat([]impl.Cell{usedCell(1, 0)}, many), 0))
	}
	other := copyOf(base)
	eachPlace(other, func(place *int) {
		before := *place
		for _, target := range slices.Concat([]int{2, len(base.Cells), len(base.Cells) + 1}, oddTargets) {
			*place = target
			all = append(all, copyOf(other))
		}
		*place = before
	})
	changed := func(number int, c impl.Cell) {
		h := copyOf(base)
		h.Cells[number] = c
		all = append(all, h)
	}
	for _, data := range oddData {
		changed(0, usedCell(data, 1, -1))
		changed(1, usedCell(data))
		changed(2, impl.Cell{Data: data})
		changed(3, usedCell(data, -1, -1, -1))
	}
	for _, many := range []int{impl.MaxRefs + 1, impl.MaxRefs + 2, 100} {
		changed(0, usedCell(5, manyOf(-1, many)...))
		changed(3, usedCell(7, manyOf(0, many)...))
	}
	for _, c := range []impl.Cell{{Data: 1}, {Data: impl.MaxData}, {Refs: []int{-1}}, {Refs: []int{0}}, {Data: 1, Refs: []int{-1, -1, -1}}} {
		changed(2, c)
	}
	changed(0, impl.Cell{})
	changed(1, impl.Cell{})
	return all
}

// P49, P50: an instruction in an invalid heap is not possible and has no result, not even if the heap were valid afterwards.
func TestStepsInInvalidHeaps(t *testing.T) {
	commands := slices.Concat(commandsWith(0, impl.MaxData), oddCommands())
	for _, h := range invalidHeaps() {
		if validHeap(h) {
			t.Fatalf("%v is valid", h)
		}
		for _, o := range commands {
			checkNoStep(t, h, o)
		}
	}
}

// P47, P49: an invalid instruction is not possible and has no result, whatever the heap is.
func TestInvalidInstructionsInValidHeaps(t *testing.T) {
	odd := oddCommands()
	heaps := slices.Concat(fullHeaps(), []impl.Heap{heapWith(nil), heapWith([]impl.Cell{{}}), heapWith([]impl.Cell{usedCell(5, 0, 0, 0)}, 0, 0, 0, 0), heapWith([]impl.Cell{usedCell(1, 1), usedCell(2, 0, -1)}, 1, -1, 0)})
	for _, h := range heaps {
		for _, o := range odd {
			checkNoStep(t, h, o)
		}
	}
}

// TestProgramsReturnForAllNumbers: for every number of an instruction, a root, a reference or Data the functions return what the chapter gives.
func TestProgramsReturnForAllNumbers(t *testing.T) {
	numbers := manyNumbers()
	few := heapWith([]impl.Cell{usedCell(0, 0), {}, usedCell(99, -1, 2, 0)}, 0, -1, 2)
	commands := []impl.Command{opNew(0, 1, 5), opGet(1, 2, 2), opSet(2, 1, 0), opCopy(2, 0), opDrop(0), opData(2, 50)}
	for _, o := range commands {
		eachNumber(o, func(o *impl.Command, place *int) {
			for _, number := range numbers {
				*place = number
				if got := impl.CommandValid(*o); got != validCommand(*o) {
					t.Fatalf("CommandValid(%v) = %v", *o, got)
				}
				checkStep(t, few, *o)
				checkStep(t, heapWith(nil), *o)
				checkProgram(t, []impl.Command{*o})
				checkProgram(t, []impl.Command{opNew(0, 3, 1), opCopy(1, 0), opCopy(2, 0), opCopy(3, 0), *o})
			}
		})
		other := copyOf(few)
		eachPlace(other, func(place *int) {
			before := *place
			for _, number := range numbers {
				*place = number
				checkStep(t, other, o)
			}
			*place = before
		})
		for _, number := range numbers {
			for k := range other.Cells {
				before := other.Cells[k].Data
				other.Cells[k].Data = number
				checkStep(t, other, o)
				other.Cells[k].Data = before
			}
		}
	}
}

// TestProgramsOfExtremeNumbers: for instructions whose numbers are all very large or very small the functions return what the chapter gives.
func TestProgramsOfExtremeNumbers(t *testing.T) {
	extremes := []int{math.MinInt, math.MinInt + 1, -1 << 32, -1, 0, 1, 2, 3, 4, 1 << 32, 1<<32 + 1, math.MaxInt - 1, math.MaxInt}
	h := heapWith([]impl.Cell{usedCell(5, 0, 0, 0)}, 0, 0, 0, 0)
	odd := heapWith([]impl.Cell{usedCell(math.MaxInt, math.MinInt)}, math.MaxInt, math.MinInt)
	for _, op := range slices.Concat([]int{5, 6, 7}, extremes) {
		for _, a := range extremes {
			for _, b := range extremes {
				for _, c := range extremes {
					o := impl.Command{Op: op, A: a, B: b, C: c}
					checkStep(t, h, o)
					checkNoStep(t, odd, o)
					checkProgram(t, []impl.Command{opNew(0, 3, 1), o})
				}
			}
		}
	}
}

// P49, P50, P51: nil and empty slices are the same.
func TestNilAndEmptySlicesOfPrograms(t *testing.T) {
	for _, o := range commandsWith(0, 42) {
		for _, cells := range [][]impl.Cell{nil, {}} {
			checkStep(t, heapWith(cells), o)
		}
		for _, refs := range [][]int{nil, {}} {
			checkStep(t, heapWith([]impl.Cell{{Refs: refs}, {Used: true, Refs: refs}}, 1, -1, 1), o)
		}
	}
	checkProgram(t, nil)
	checkProgram(t, []impl.Command{})
}

// TestStepsInHeapsThatShareMemory: the slices of an argument may be the same ones; nevertheless only what the instruction names changes.
func TestStepsInHeapsThatShareMemory(t *testing.T) {
	refs := []int{1, -1, 0, -1}
	cells := []impl.Cell{usedCell(1, refs[:3]...), usedCell(2, refs[1:]...), usedCell(3, refs[:3]...), usedCell(4, refs[:3]...)}
	for _, o := range commandsWith(0, 42) {
		checkStep(t, impl.Heap{Cells: cells, Roots: refs}, o)
		checkStep(t, heapWith(cells, 0, 1, 2, 3), o)
		if !slices.Equal(refs, []int{1, -1, 0, -1}) {
			t.Fatalf("after %v the references are %v", o, refs)
		}
	}
}

// overwriteHeap overwrites all slices of a result, which is a heap and other lists, with their spare capacity, and fails if two of them share memory.
func overwriteHeap(t *testing.T, h impl.Heap, others ...[]int) {
	t.Helper()
	lists := append([][]int{h.Roots}, others...)
	for _, c := range h.Cells {
		lists = append(lists, c.Refs)
	}
	for k, list := range lists {
		lists[k] = list[:cap(list)]
	}
	for k, list := range lists {
		for i := range list {
			list[i] = -100 - k
		}
	}
	for k, list := range lists {
		if !slices.Equal(list, manyOf(-100-k, len(list))) {
			t.Fatalf("slices of the result %v share memory", h)
		}
	}
	fillCells(h.Cells[:cap(h.Cells)])
}

// checkStepSharesNothing fails if a step changes a heap or the spare capacity of its slices, or if overwriting its result, with the spare capacity, changes the heap or another result.
func checkStepSharesNothing(t *testing.T, h impl.Heap, o impl.Command) {
	t.Helper()
	s := spareOf(h)
	before := s.state()
	impl.CommandPossible(s.heap, o)
	next, ok := impl.StepHeap(s.heap, o)
	other, _ := impl.StepHeap(s.heap, o)
	if !slices.Equal(s.state(), before) {
		t.Fatalf("after %v the heap %v is %v", o, h, s.heap)
	}
	want := copyOf(next)
	overwriteHeap(t, next)
	if !slices.Equal(s.state(), before) {
		t.Fatalf("the heap %v shares memory with a result of %v", h, o)
	}
	if again, done := impl.StepHeap(s.heap, o); done != ok || !sameHeap(again, want) || !sameHeap(other, want) {
		t.Fatalf("results of %v after %v share memory", h, o)
	}
}

// TestStepsShareNothing: no heap changes, valid or not, whether the instruction is possible or not, not even when the result is overwritten, and neither does another result.
func TestStepsShareNothing(t *testing.T) {
	commands := commandsWith(42)
	eachHeapOf(2, 2, 1, func(h impl.Heap) {
		for _, o := range commands {
			checkStepSharesNothing(t, h, o)
		}
	})
	for cells := range impl.MaxCells + 1 {
		for _, o := range commands {
			checkStepSharesNothing(t, mixedHeap(cells, cells), o)
		}
	}
	for _, h := range slices.Concat(fullHeaps(), invalidHeaps()) {
		for _, o := range []impl.Command{opNew(1, 3, 8), opGet(1, 0, 0), opGet(3, 3, 2), opSet(0, 1, 0), opCopy(1, 0), opDrop(0), opData(0, 8), opData(3, 8), {}} {
			checkStepSharesNothing(t, h, o)
		}
	}
}

// TestLaterStepsChangeNothing: the heaps before and after every instruction of a program stay as they are while it goes on, also if two programs go on from the same heap.
func TestLaterStepsChangeNothing(t *testing.T) {
	for _, list := range longPrograms() {
		heaps := []impl.Heap{impl.EmptyHeap()}
		states := []impl.Heap{impl.EmptyHeap()}
		keep := func(h impl.Heap) {
			heaps, states = append(heaps, h), append(states, copyOf(h))
		}
		h := heaps[0]
		for _, o := range list {
			for _, aside := range []impl.Command{opNew(0, 2, 77), opSet(0, 0, 0), opData(0, 78), opDrop(0)} {
				other, _ := impl.StepHeap(h, aside)
				keep(other)
			}
			h, _ = impl.StepHeap(h, o)
			keep(h)
		}
		for k := range heaps {
			if !sameHeap(heaps[k], states[k]) {
				t.Fatalf("while %v ran the heap %v became %v", list, states[k], heaps[k])
			}
		}
	}
}

// withSpareCommands returns a copy of a program with spare capacity that is filled, which is the second result together with it.
func withSpareCommands(list []impl.Command) ([]impl.Command, []impl.Command) {
	whole := make([]impl.Command, len(list)+3)
	copy(whole, list)
	for k := len(list); k < len(whole); k++ {
		whole[k] = impl.Command{Op: -7, A: -7, B: -7, C: -7}
	}
	return whole[:len(list)], whole
}

// checkProgramSharesNothing fails if a program changes while it runs, or if overwriting the heap after it changes it or another result.
func checkProgramSharesNothing(t *testing.T, list []impl.Command) {
	t.Helper()
	part, whole := withSpareCommands(list)
	before := slices.Clone(whole)
	impl.CommandsValid(part)
	h, other := impl.RunHeap(part), impl.RunHeap(part)
	want := copyOf(h)
	overwriteHeap(t, h)
	if !slices.Equal(whole, before) {
		t.Fatalf("the program %v became %v", before, whole)
	}
	if again := impl.RunHeap(part); !sameHeap(other, want) || !sameHeap(again, want) {
		t.Fatalf("results of the program %v share memory", list)
	}
}

// TestProgramsShareNothing: no program changes, valid or not, not even when the heap after it is overwritten, and neither does another result.
func TestProgramsShareNothing(t *testing.T) {
	for _, list := range longPrograms() {
		checkProgramSharesNothing(t, list)
		checkProgramSharesNothing(t, slices.Concat(list, []impl.Command{{}}))
	}
	checkProgramSharesNothing(t, slices.Repeat([]impl.Command{opNew(0, 3, 1)}, impl.MaxCommands+1))
}
