package impl

import "slices"

// Command is an instruction of a program: its operation and three numbers.
type Command struct {
	Op int
	A  int
	B  int
	C  int
}

// The operations; MaxCommands is the maximum number of instructions of a program.
const (
	OpNew       = 1
	OpGet       = 2
	OpSet       = 3
	OpCopy      = 4
	OpDrop      = 5
	OpData      = 6
	MaxCommands = 40
)

// operation is what all instructions with the same Op have in common: the greatest A, B and C, which are at least 0; whether a valid one has an effect on a valid heap; and that effect, on a heap for which there is one.
type operation struct {
	maxA, maxB, maxC int
	possible         func(o Command, h Heap) bool
	execute          func(o Command, h *Heap)
}

// operations returns the table of operations, each at its number.
func operations() [OpData + 1]operation {
	const maxRoot, maxPlace = MaxRoots - 1, MaxRefs - 1
	// A number that is not named is at most 0.
	return [OpData + 1]operation{
		OpNew:  {maxRoot, MaxRefs, MaxData, Command.always, Command.newCell},
		OpGet:  {maxRoot, maxRoot, maxPlace, Command.canGetRef, Command.getRef},
		OpSet:  {maxRoot, maxRoot, maxPlace, Command.canSetRef, Command.setRef},
		OpCopy: {maxRoot, maxRoot, 0, Command.always, Command.copyRoot},
		OpDrop: {maxRoot, 0, 0, Command.always, Command.dropRoot},
		OpData: {maxRoot, MaxData, 0, Command.canSetData, Command.setData},
	}
}

// takes reports whether the numbers of an instruction are such as the operation asks for.
func (p operation) takes(o Command) bool {
	return upTo(o.A, p.maxA) && upTo(o.B, p.maxB) && upTo(o.C, p.maxC)
}

// upTo reports whether a number is in 0..most.
func upTo(number int, most int) bool {
	return number >= 0 && number <= most
}

// operationOf returns the operation of an instruction, and whether the instruction is valid.
func operationOf(o Command) (operation, bool) {
	if o.Op < OpNew || o.Op > OpData {
		return operation{}, false
	}
	p := operations()[o.Op]
	return p, p.takes(o)
}

// hasRef reports whether a root of a valid heap is a cell with a reference at a place.
func (h Heap) hasRef(root int, place int) bool {
	number := h.Roots[root]
	return number != -1 && place < len(h.Cells[number].Refs)
}

// always is for operations that have an effect on every heap.
func (o Command) always(h Heap) bool {
	return true
}

// canGetRef reports whether there is a reference for getRef.
func (o Command) canGetRef(h Heap) bool {
	return h.hasRef(o.B, o.C)
}

// canSetRef reports whether there is a reference for setRef.
func (o Command) canSetRef(h Heap) bool {
	return h.hasRef(o.A, o.C)
}

// canSetData reports whether there is a cell for setData.
func (o Command) canSetData(h Heap) bool {
	return h.Roots[o.A] != -1
}

// newCellAt executes OpNew with a place for the new cell: that of one that is not used, or the place behind the last one.
func (o Command) newCellAt(h *Heap, place int) {
	if place == len(h.Cells) {
		h.Cells = append(h.Cells, Cell{})
	}
	h.Cells[place] = Cell{Used: true, Data: o.C, Refs: slices.Repeat([]int{-1}, o.B)}
	h.Roots[o.A] = place
}

// newCell executes OpNew on a heap with room for a further cell.
func (o Command) newCell(h *Heap) {
	o.newCellAt(h, len(h.Cells))
}

// getRef executes OpGet.
func (o Command) getRef(h *Heap) {
	h.Roots[o.A] = h.Cells[h.Roots[o.B]].Refs[o.C]
}

// setRef executes OpSet.
func (o Command) setRef(h *Heap) {
	h.Cells[h.Roots[o.A]].Refs[o.C] = h.Roots[o.B]
}

// copyRoot executes OpCopy.
func (o Command) copyRoot(h *Heap) {
	h.Roots[o.A] = h.Roots[o.B]
}

// dropRoot executes OpDrop.
func (o Command) dropRoot(h *Heap) {
	h.Roots[o.A] = -1
}

// setData executes OpData.
func (o Command) setData(h *Heap) {
	h.Cells[h.Roots[o.A]].Data = o.B
}

// CommandValid reports whether an instruction is valid: OpNew has a root A, B references with B in 0..MaxRefs, and Data C in 0..MaxData; OpGet and OpSet have roots A and B, and a place C in 0..MaxRefs-1; OpCopy has roots A and B, OpDrop a root A, OpData a root A and Data B in 0..MaxData. Roots are numbers in 0..MaxRoots-1, and numbers that are not named are 0.
func CommandValid(o Command) bool {
	_, ok := operationOf(o)
	return ok
}

// CommandsValid reports whether there are at most MaxCommands instructions, all of them valid.
func CommandsValid(list []Command) bool {
	if len(list) > MaxCommands {
		return false
	}
	for _, o := range list {
		if !CommandValid(o) {
			return false
		}
	}
	return true
}

// CommandPossible reports whether a valid instruction has an effect on a valid heap: OpNew always; OpGet if root B is a cell with a reference at the place C; OpSet if root A is one; OpCopy and OpDrop always; OpData if root A is a cell; false for other arguments.
func CommandPossible(h Heap, o Command) bool {
	p, ok := operationOf(o)
	return ok && HeapValid(h) && p.possible(o, h)
}

// hasRoom reports whether a heap has room for what an instruction makes: only OpNew makes a cell.
func hasRoom(h Heap, o Command) bool {
	return o.Op != OpNew || len(h.Cells) < MaxCells
}

// StepHeap returns a valid heap after a valid instruction, and true: OpNew puts a new cell with B references, which are all -1, and Data C behind the last cell, and makes it root A; OpGet makes root A what the reference C of root B is; OpSet makes the reference C of root A what root B is; OpCopy makes root A what root B is; OpDrop makes root A -1; OpData makes Data of root A B. It returns the heap unchanged and false if that is not possible (CommandPossible), or if there are MaxCells cells and OpNew is asked for; the zero value and false for other arguments.
func StepHeap(h Heap, o Command) (Heap, bool) {
	p, ok := operationOf(o)
	if !ok || !HeapValid(h) {
		return Heap{}, false
	}
	// The instruction writes to the copy, so that the argument stays as it is.
	next := cloneHeap(h)
	if !p.possible(o, h) || !hasRoom(h, o) {
		return next, false
	}
	p.execute(o, &next)
	return next, true
}

// stepReusing returns what StepHeap returns for a valid heap and a valid instruction, but OpNew uses the first cell that is not used, if there is one: it has no room only if all of MaxCells cells are used.
func stepReusing(h Heap, o Command) (Heap, bool) {
	place := usedSet(h.Cells).firstOutside()
	if o.Op != OpNew || place == len(h.Cells) {
		return StepHeap(h, o)
	}
	next := cloneHeap(h)
	o.newCellAt(&next, place)
	return next, true
}

// RunHeap returns the heap after a valid program (CommandsValid) has run from EmptyHeap on, instruction by instruction (StepHeap); instructions that are not possible are passed over; the zero value for other programs. No cell is ever used again.
func RunHeap(list []Command) Heap {
	if !CommandsValid(list) {
		return Heap{}
	}
	h := EmptyHeap()
	for _, o := range list {
		// An instruction that is not possible leaves the heap as it is: so nothing depends on the second result.
		h, _ = StepHeap(h, o)
	}
	return h
}
