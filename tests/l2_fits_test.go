package tests

import (
	"slices"
	"testing"

	"loop.example/memorymanagers/impl"
)

// oddSizes are numbers of words that cannot be asked for.
var oddSizes = append([]int{0}, oddNumbers...)

// usedBlock and freeBlock keep the tables below short.
func usedBlock(start, size int) impl.Block {
	return impl.Block{Start: start, Size: size, Used: true}
}

func freeBlock(start, size int) impl.Block {
	return impl.Block{Start: start, Size: size}
}

// mixedBlocks has free blocks of 2, 4, 3, 4, 3 and 2 words, the first and the last block among them.
func mixedBlocks() []impl.Block {
	return []impl.Block{
		{Start: 0, Size: 2},
		{Start: 2, Size: 1, Used: true},
		{Start: 3, Size: 4},
		{Start: 7, Size: 2, Used: true},
		{Start: 9, Size: 3},
		{Start: 12, Size: 1, Used: true},
		{Start: 13, Size: 1, Used: true},
		{Start: 14, Size: 4},
		{Start: 18, Size: 5, Used: true},
		{Start: 23, Size: 3},
		{Start: 26, Size: 1, Used: true},
		{Start: 27, Size: 2},
	}
}

const mixedTotal = 29

// eachFitting calls check with all divisions of eachDivision, and with mixedBlocks.
func eachFitting(check func(list []impl.Block, total int)) {
	eachDivision(check)
	check(mixedBlocks(), mixedTotal)
}

// freeWordsOf counts the free words of blocks without the program.
func freeWordsOf(list []impl.Block) int {
	words := 0
	for _, b := range list {
		if !b.Used {
			words += b.Size
		}
	}
	return words
}

// largestFreeOf returns the size of the largest free block without the program.
func largestFreeOf(list []impl.Block) int {
	largest := 0
	for _, b := range list {
		if !b.Used && b.Size > largest {
			largest = b.Size
		}
	}
	return largest
}

// fitsOf returns the numbers of the free blocks that have at least size words.
func fitsOf(list []impl.Block, size int) []int {
	var numbers []int
	for i, b := range list {
		if !b.Used && b.Size >= size {
			numbers = append(numbers, i)
		}
	}
	return numbers
}

// joinedFree returns blocks in which free neighbours are joined.
func joinedFree(list []impl.Block) []impl.Block {
	var joined []impl.Block
	for _, b := range list {
		if last := len(joined) - 1; last >= 0 && !b.Used && !joined[last].Used {
			joined[last].Size += b.Size
		} else {
			joined = append(joined, b)
		}
	}
	return joined
}

// P18: FirstFit finds a block for as many words as the largest free block has, and for fewer, but for no word more.
func TestLargestFreeBlockFits(t *testing.T) {
	eachFitting(func(list []impl.Block, total int) {
		largest := impl.LargestFree(list, total)
		if want := largestFreeOf(list); largest != want {
			t.Fatalf("LargestFree(%v, %d) = %d, not %d", list, total, largest, want)
		}
		if largest > 0 {
			number := impl.FirstFit(list, total, largest)
			if number < 0 || number >= len(list) || list[number].Used || list[number].Size != largest {
				t.Fatalf("FirstFit(%v, %d, %d) = %d", list, total, largest, number)
			}
		}
		for size := 1; size <= impl.MaxTotal+1; size++ {
			if got := impl.FirstFit(list, total, size); (got >= 0) != (size <= largest) {
				t.Fatalf("FirstFit(%v, %d, %d) = %d, but the largest free block has %d words", list, total, size, got, largest)
			}
		}
	})
}

// P20: the block is free and large enough, and no free block before it is.
func TestFirstFitsComeFirst(t *testing.T) {
	eachFitting(func(list []impl.Block, total int) {
		for size := 1; size <= impl.MaxTotal; size++ {
			want := -1
			if fits := fitsOf(list, size); len(fits) > 0 {
				want = fits[0]
			}
			if got := impl.FirstFit(list, total, size); got != want {
				t.Fatalf("FirstFit(%v, %d, %d) = %d, not %d", list, total, size, got, want)
			}
		}
	})
}

// P21: the block is free and large enough, no smaller one is, and it is the first of its size; there is one exactly if FirstFit finds one.
func TestBestFitsWasteLeast(t *testing.T) {
	eachFitting(func(list []impl.Block, total int) {
		for size := 1; size <= impl.MaxTotal; size++ {
			want := -1
			for _, number := range fitsOf(list, size) {
				if want < 0 || list[number].Size < list[want].Size {
					want = number
				}
			}
			got := impl.BestFit(list, total, size)
			if got != want {
				t.Fatalf("BestFit(%v, %d, %d) = %d, not %d", list, total, size, got, want)
			}
			if first := impl.FirstFit(list, total, size); (first < 0) != (got < 0) {
				t.Fatalf("in %v FirstFit of %d words is %d, and BestFit is %d", list, size, first, got)
			}
		}
	})
}

func TestFitsOfMixedBlocks(t *testing.T) {
	list := mixedBlocks()
	for _, c := range []struct{ size, first, best int }{
		{1, 0, 0}, {2, 0, 0}, {3, 2, 4}, {4, 2, 2}, {5, -1, -1}, {mixedTotal, -1, -1}, {impl.MaxTotal, -1, -1},
	} {
		if got := impl.FirstFit(list, mixedTotal, c.size); got != c.first {
			t.Errorf("FirstFit of %d words = %d, not %d", c.size, got, c.first)
		}
		if got := impl.BestFit(list, mixedTotal, c.size); got != c.best {
			t.Errorf("BestFit of %d words = %d, not %d", c.size, got, c.best)
		}
	}
}

func TestFitsOfWholeMemories(t *testing.T) {
	for total := 1; total <= impl.MaxTotal; total++ {
		empty := []impl.Block{{Start: 0, Size: total}}
		full := []impl.Block{{Start: 0, Size: total, Used: true}}
		for _, c := range []struct {
			list       []impl.Block
			size, want int
		}{{empty, 1, 0}, {empty, total, 0}, {empty, total + 1, -1}, {full, 1, -1}, {full, total, -1}} {
			if first, best := impl.FirstFit(c.list, total, c.size), impl.BestFit(c.list, total, c.size); first != c.want || best != c.want {
				t.Fatalf("in %v FirstFit of %d words is %d, and BestFit is %d, not %d", c.list, c.size, first, best, c.want)
			}
		}
	}
}

// P20, P21: for numbers of words that cannot be asked for there is no block.
func TestFitsOfOtherSizes(t *testing.T) {
	eachFitting(func(list []impl.Block, total int) {
		for _, size := range oddSizes {
			if first, best := impl.FirstFit(list, total, size), impl.BestFit(list, total, size); first != -1 || best != -1 {
				t.Fatalf("in %v FirstFit of %d words is %d, and BestFit is %d", list, size, first, best)
			}
		}
	})
}

// takenOf returns the blocks that TakeBlock must return if it succeeds, from its definition.
func takenOf(list []impl.Block, number int, size int) []impl.Block {
	b := list[number]
	taken := slices.Clone(list)
	taken[number] = impl.Block{Start: b.Start, Size: size, Used: true}
	if size == b.Size {
		return taken
	}
	return slices.Insert(taken, number+1, impl.Block{Start: b.Start + size, Size: b.Size - size})
}

// P22: as many words fewer are free, the blocks stay valid, and giving the block back leads to the blocks before.
func TestTakenWordsAreUsed(t *testing.T) {
	eachFitting(func(list []impl.Block, total int) {
		for _, number := range fitsOf(list, 1) {
			for size := 1; size <= list[number].Size; size++ {
				taken, ok := impl.TakeBlock(list, total, number, size)
				if want := takenOf(list, number, size); !ok || !slices.Equal(taken, want) {
					t.Fatalf("TakeBlock(%v, %d, %d, %d) = %v, %v, not %v", list, total, number, size, taken, ok, want)
				}
				if !impl.BlocksValid(taken, total) || impl.FreeWords(taken, total) != freeWordsOf(list)-size {
					t.Fatalf("%v with %d words taken is %v", list, size, taken)
				}
				if back, ok := impl.GiveBlock(taken, total, number); !ok || !slices.Equal(back, list) {
					t.Fatalf("GiveBlock(%v, %d, %d) = %v, %v, not %v", taken, total, number, back, ok, list)
				}
			}
		}
	})
}

type changeCase struct {
	name   string
	list   []impl.Block
	number int
	size   int
	want   []impl.Block
}

func TestTakeBlockOfOneMemory(t *testing.T) {
	list := []impl.Block{{Start: 0, Size: 3}, {Start: 3, Size: 2, Used: true}, {Start: 5, Size: 3}}
	used := impl.Block{Start: 3, Size: 2, Used: true}
	for _, c := range []changeCase{
		{"a part of the first block", list, 0, 1, []impl.Block{{Start: 0, Size: 1, Used: true}, {Start: 1, Size: 2}, used, {Start: 5, Size: 3}}},
		{"all but a word of the first block", list, 0, 2, []impl.Block{{Start: 0, Size: 2, Used: true}, {Start: 2, Size: 1}, used, {Start: 5, Size: 3}}},
		{"the first block", list, 0, 3, []impl.Block{{Start: 0, Size: 3, Used: true}, used, {Start: 5, Size: 3}}},
		{"a part of the last block", list, 2, 1, []impl.Block{{Start: 0, Size: 3}, used, {Start: 5, Size: 1, Used: true}, {Start: 6, Size: 2}}},
		{"the last block", list, 2, 3, []impl.Block{{Start: 0, Size: 3}, used, {Start: 5, Size: 3, Used: true}}},
		{"a part of the memory", []impl.Block{{Start: 0, Size: 8}}, 0, 5, []impl.Block{{Start: 0, Size: 5, Used: true}, {Start: 5, Size: 3}}},
		{"the whole memory", []impl.Block{{Start: 0, Size: 8}}, 0, 8, []impl.Block{{Start: 0, Size: 8, Used: true}}},
	} {
		if got, ok := impl.TakeBlock(c.list, 8, c.number, c.size); !ok || !slices.Equal(got, c.want) {
			t.Errorf("%s: TakeBlock = %v, %v, not %v", c.name, got, ok, c.want)
		}
	}
}

// refusedTake fails unless TakeBlock returns the blocks unchanged and false.
func refusedTake(t *testing.T, list []impl.Block, total int, number int, size int) {
	t.Helper()
	if got, ok := impl.TakeBlock(list, total, number, size); ok || !slices.Equal(got, list) {
		t.Fatalf("TakeBlock(%v, %d, %d, %d) = %v, %v", list, total, number, size, got, ok)
	}
}

// refusedGive fails unless GiveBlock returns the blocks unchanged and false.
func refusedGive(t *testing.T, list []impl.Block, total int, number int) {
	t.Helper()
	if got, ok := impl.GiveBlock(list, total, number); ok || !slices.Equal(got, list) {
		t.Fatalf("GiveBlock(%v, %d, %d) = %v, %v", list, total, number, got, ok)
	}
}

// P22: used blocks and blocks that are too small, if only by one word, are not taken.
func TestTakeBlockOfUsedAndSmallBlocks(t *testing.T) {
	eachFitting(func(list []impl.Block, total int) {
		for number, b := range list {
			least := 1
			if !b.Used {
				least = b.Size + 1
			}
			for size := least; size <= impl.MaxTotal; size++ {
				refusedTake(t, list, total, number, size)
			}
		}
	})
}

// P22: numbers of words that cannot be asked for are refused, and the blocks stay what they are.
func TestTakeBlockOfOtherSizes(t *testing.T) {
	eachFitting(func(list []impl.Block, total int) {
		for number := range list {
			for _, size := range oddSizes {
				refusedTake(t, list, total, number, size)
			}
		}
	})
}

// P22, P23: a block that is not there is neither taken nor given.
func TestBlocksThatAreNotThere(t *testing.T) {
	eachFitting(func(list []impl.Block, total int) {
		for _, number := range append([]int{len(list), len(list) + 1}, oddNumbers...) {
			refusedGive(t, list, total, number)
			for _, size := range append([]int{1, total, impl.MaxTotal}, oddSizes...) {
				refusedTake(t, list, total, number, size)
			}
		}
	})
}

// P23: as many words more are free as the block has, the blocks stay valid, and there are not more of them.
func TestGivenWordsAreFree(t *testing.T) {
	eachFitting(func(list []impl.Block, total int) {
		for number, b := range list {
			if !b.Used {
				refusedGive(t, list, total, number)
				continue
			}
			want := slices.Clone(list)
			want[number].Used = false
			want = joinedFree(want)
			given, ok := impl.GiveBlock(list, total, number)
			if !ok || !slices.Equal(given, want) {
				t.Fatalf("GiveBlock(%v, %d, %d) = %v, %v, not %v", list, total, number, given, ok, want)
			}
			if !impl.BlocksValid(given, total) || impl.FreeWords(given, total) != freeWordsOf(list)+b.Size || len(given) > len(list) {
				t.Fatalf("%v with block %d given back is %v", list, number, given)
			}
		}
	})
}

func TestGiveBlockOfOneMemory(t *testing.T) {
	for _, c := range []changeCase{
		{"between two free blocks", []impl.Block{freeBlock(0, 3), usedBlock(3, 2), freeBlock(5, 3)}, 1, 0, []impl.Block{freeBlock(0, 8)}},
		{"between two used blocks", []impl.Block{usedBlock(0, 3), usedBlock(3, 2), usedBlock(5, 3)}, 1, 0, []impl.Block{usedBlock(0, 3), freeBlock(3, 2), usedBlock(5, 3)}},
		{"behind a free block", []impl.Block{freeBlock(0, 3), usedBlock(3, 2), usedBlock(5, 3)}, 1, 0, []impl.Block{freeBlock(0, 5), usedBlock(5, 3)}},
		{"before a free block", []impl.Block{usedBlock(0, 3), usedBlock(3, 2), freeBlock(5, 3)}, 1, 0, []impl.Block{usedBlock(0, 3), freeBlock(3, 5)}},
		{"at the beginning, before a free block", []impl.Block{usedBlock(0, 3), freeBlock(3, 2), usedBlock(5, 3)}, 0, 0, []impl.Block{freeBlock(0, 5), usedBlock(5, 3)}},
		{"at the beginning, before a used block", []impl.Block{usedBlock(0, 3), usedBlock(3, 5)}, 0, 0, []impl.Block{freeBlock(0, 3), usedBlock(3, 5)}},
		{"at the end, behind a free block", []impl.Block{usedBlock(0, 3), freeBlock(3, 2), usedBlock(5, 3)}, 2, 0, []impl.Block{usedBlock(0, 3), freeBlock(3, 5)}},
		{"at the end, behind a used block", []impl.Block{usedBlock(0, 3), usedBlock(3, 5)}, 1, 0, []impl.Block{usedBlock(0, 3), freeBlock(3, 5)}},
		{"the whole memory", []impl.Block{usedBlock(0, 8)}, 0, 0, []impl.Block{freeBlock(0, 8)}},
		{"free blocks farther away", []impl.Block{freeBlock(0, 1), usedBlock(1, 1), usedBlock(2, 2), usedBlock(4, 3), freeBlock(7, 1)}, 2, 0, []impl.Block{freeBlock(0, 1), usedBlock(1, 1), freeBlock(2, 2), usedBlock(4, 3), freeBlock(7, 1)}},
	} {
		if got, ok := impl.GiveBlock(c.list, 8, c.number); !ok || !slices.Equal(got, c.want) {
			t.Errorf("%s: GiveBlock(%v, 8, %d) = %v, %v, not %v", c.name, c.list, c.number, got, ok, c.want)
		}
	}
}

// givenAt gives back the block that begins with a word: its number changes when a block before it is given.
func givenAt(t *testing.T, list []impl.Block, total int, start int) []impl.Block {
	t.Helper()
	number := slices.IndexFunc(list, func(b impl.Block) bool { return b.Start == start })
	given, ok := impl.GiveBlock(list, total, number)
	if !ok {
		t.Fatalf("GiveBlock(%v, %d, %d) is refused", list, total, number)
	}
	return given
}

// checkOrders gives two used blocks back in both orders.
func checkOrders(t *testing.T, list []impl.Block, total int, i int, j int) {
	t.Helper()
	a, b := list[i].Start, list[j].Start
	want := slices.Clone(list)
	want[i].Used, want[j].Used = false, false
	want = joinedFree(want)
	one := givenAt(t, givenAt(t, list, total, a), total, b)
	other := givenAt(t, givenAt(t, list, total, b), total, a)
	if !slices.Equal(one, other) || !slices.Equal(one, want) {
		t.Fatalf("blocks %d and %d of %v given back: %v, in the other order %v, not %v", i, j, list, one, other, want)
	}
}

// P111: two used blocks, given back in both orders, lead to the same blocks.
func TestOrderOfGivingDoesNotMatter(t *testing.T) {
	eachFitting(func(list []impl.Block, total int) {
		for i := range list {
			for j := 0; j < i; j++ {
				if list[i].Used && list[j].Used {
					checkOrders(t, list, total, i, j)
				}
			}
		}
	})
}

// P112: with both fits as many words are free afterwards, and with BestFit the largest free block is not smaller.
func TestBothFitsTakeAsMuch(t *testing.T) {
	eachFitting(func(list []impl.Block, total int) {
		for size := 1; size <= largestFreeOf(list); size++ {
			first, okFirst := impl.TakeBlock(list, total, impl.FirstFit(list, total, size), size)
			best, okBest := impl.TakeBlock(list, total, impl.BestFit(list, total, size), size)
			if !okFirst || !okBest {
				t.Fatalf("%d words of %v: FirstFit %v, BestFit %v", size, list, okFirst, okBest)
			}
			if a, b, want := impl.FreeWords(first, total), impl.FreeWords(best, total), freeWordsOf(list)-size; a != want || b != want {
				t.Fatalf("%d words of %v: %d are free with FirstFit, %d with BestFit, not %d", size, list, a, b, want)
			}
			if a, b := impl.LargestFree(first, total), impl.LargestFree(best, total); a > b || a != largestFreeOf(first) || b != largestFreeOf(best) {
				t.Fatalf("%d words of %v: the largest free block has %d words with FirstFit, %d with BestFit", size, list, a, b)
			}
		}
	})
}

func TestBestFitLeavesTheLargestBlock(t *testing.T) {
	list := []impl.Block{{Start: 0, Size: 4}, {Start: 4, Size: 1, Used: true}, {Start: 5, Size: 3}}
	first, _ := impl.TakeBlock(list, 8, impl.FirstFit(list, 8, 3), 3)
	best, _ := impl.TakeBlock(list, 8, impl.BestFit(list, 8, 3), 3)
	if a, b := impl.LargestFree(first, 8), impl.LargestFree(best, 8); a != 3 || b != 4 {
		t.Errorf("the largest free block has %d words with FirstFit and %d with BestFit, not 3 and 4", a, b)
	}
}

// P20, P21, P22, P23: invalid blocks have the results that the chapter gives for them, whatever the other arguments are.
func TestFitsOfInvalidBlocks(t *testing.T) {
	numbers := append([]int{0, 1, 2, 3}, oddNumbers...)
	sizes := append([]int{1, 2, 8, impl.MaxTotal}, oddSizes...)
	for _, c := range invalidBlocks() {
		for _, size := range sizes {
			if first, best := impl.FirstFit(c.list, c.total, size), impl.BestFit(c.list, c.total, size); first != -1 || best != -1 {
				t.Errorf("%s: FirstFit of %d words is %d, and BestFit is %d", c.name, size, first, best)
			}
			for _, number := range numbers {
				if got, ok := impl.TakeBlock(c.list, c.total, number, size); ok || len(got) != 0 {
					t.Errorf("%s: TakeBlock(%v, %d, %d, %d) = %v, %v", c.name, c.list, c.total, number, size, got, ok)
				}
			}
		}
		for _, number := range numbers {
			if got, ok := impl.GiveBlock(c.list, c.total, number); ok || len(got) != 0 {
				t.Errorf("%s: GiveBlock(%v, %d, %d) = %v, %v", c.name, c.list, c.total, number, got, ok)
			}
		}
	}
}

// resultsOfFits calls every function of the chapter, with requests that succeed and with refused ones, and returns the blocks of all results.
func resultsOfFits(list []impl.Block, total int) [][]impl.Block {
	var results [][]impl.Block
	keep := func(blocks []impl.Block, ok bool) { results = append(results, blocks) }
	for _, size := range []int{-1, 0, 1, 2, total, total + 1} {
		impl.FirstFit(list, total, size)
		impl.BestFit(list, total, size)
		for _, number := range []int{-1, 0, 1, len(list) / 2, len(list) - 1, len(list)} {
			keep(impl.TakeBlock(list, total, number, size))
			keep(impl.GiveBlock(list, total, number))
		}
	}
	return results
}

// eachArgument calls check with valid blocks and with invalid ones.
func eachArgument(check func(list []impl.Block, total int)) {
	eachFitting(check)
	for _, c := range invalidBlocks() {
		check(c.list, c.total)
	}
}

// checkSharesNothing fails if the calls that lead to results change their blocks or the spare capacity behind them, or if overwriting the results, with their spare capacity, changes the blocks or another result.
func checkSharesNothing(t *testing.T, resultsOf func(list []impl.Block, total int) [][]impl.Block, list []impl.Block, total int) {
	t.Helper()
	whole := make([]impl.Block, len(list)+3)
	fill(whole)
	copy(whole, list)
	before := slices.Clone(whole)
	results := resultsOf(whole[:len(list)], total)
	if !slices.Equal(whole, before) {
		t.Fatalf("the blocks %v became %v", before, whole)
	}
	wanted := resultsOf(list, total)
	for i, result := range results {
		if !slices.Equal(result, wanted[i]) {
			t.Fatalf("result %d of %v is %v, not %v", i, list, result, wanted[i])
		}
		fill(result[:cap(result)])
	}
	if !slices.Equal(whole, before) {
		t.Fatalf("the blocks %v share memory with a result", before)
	}
}

// TestFitsShareNothing: no argument changes, not even when all results are overwritten, and neither does another result.
func TestFitsShareNothing(t *testing.T) {
	eachArgument(func(list []impl.Block, total int) {
		checkSharesNothing(t, resultsOfFits, list, total)
	})
}
