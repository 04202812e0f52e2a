package impl

// Command is an instruction of a program: its operation and three numbers.
type Command struct {
	Op int
	A  int
	B  int
	C  int
}

// The operations; MaxCommands is the maximum number of instructions of a program.
const (
	OpNew       = 1
	OpGet       = 2
	OpSet       = 3
	OpCopy      = 4
	OpDrop      = 5
	OpData      = 6
	MaxCommands = 40
)

// CommandValid reports whether an instruction is valid: OpNew has a root A, B references with B in 0..MaxRefs, and Data C in 0..MaxData; OpGet and OpSet have roots A and B, and a place C in 0..MaxRefs-1; OpCopy has roots A and B, OpDrop a root A, OpData a root A and Data B in 0..MaxData. Roots are numbers in 0..MaxRoots-1, and numbers that are not named are 0.
func CommandValid(o Command) bool {
	return false
}

// CommandsValid reports whether there are at most MaxCommands instructions, all of them valid.
func CommandsValid(list []Command) bool {
	return false
}

// CommandPossible reports whether a valid instruction has an effect on a valid heap: OpNew always; OpGet if root B is a cell with a reference at the place C; OpSet if root A is one; OpCopy and OpDrop always; OpData if root A is a cell; false for other arguments.
func CommandPossible(h Heap, o Command) bool {
	return false
}

// StepHeap returns a valid heap after a valid instruction, and true: OpNew puts a new cell with B references, which are all -1, and Data C behind the last cell, and makes it root A; OpGet makes root A what the reference C of root B is; OpSet makes the reference C of root A what root B is; OpCopy makes root A what root B is; OpDrop makes root A -1; OpData makes Data of root A B. It returns the heap unchanged and false if that is not possible (CommandPossible), or if there are MaxCells cells and OpNew is asked for; the zero value and false for other arguments.
func StepHeap(h Heap, o Command) (Heap, bool) {
	return Heap{}, false
}

// RunHeap returns the heap after a valid program (CommandsValid) has run from EmptyHeap on, instruction by instruction (StepHeap); instructions that are not possible are passed over; the zero value for other programs. No cell is ever used again.
func RunHeap(list []Command) Heap {
	return Heap{}
}
