package tests

import (
	"math"
	"slices"
	"testing"

	"loop.example/memorymanagers/impl"
)

// oddNumbers are numbers that are neither a number of words of a memory nor a word of one.
var oddNumbers = []int{-1, -2, -impl.MaxTotal, impl.MaxTotal + 1, 1 << 31, 1 << 32, 1<<32 + 8, math.MaxInt, math.MaxInt - 1, math.MinInt, math.MinInt + 1}

// divisions returns all blocks that divide a memory, built from the definition and not by the program.
func divisions(total int) [][]impl.Block {
	var all [][]impl.Block
	var extend func(list []impl.Block, next int)
	extend = func(list []impl.Block, next int) {
		if next == total {
			all = append(all, slices.Clone(list))
			return
		}
		for size := 1; size <= total-next; size++ {
			extend(append(list, impl.Block{Start: next, Size: size, Used: true}), next+size)
			if len(list) == 0 || list[len(list)-1].Used {
				extend(append(list, impl.Block{Start: next, Size: size}), next+size)
			}
		}
	}
	extend(nil, 0)
	return all
}

// eachDivision calls check with all divisions of small memories, and with some of the largest one.
func eachDivision(check func(list []impl.Block, total int)) {
	for total := 1; total <= 8; total++ {
		for _, list := range divisions(total) {
			check(list, total)
		}
	}
	for _, list := range largeDivisions() {
		check(list, impl.MaxTotal)
	}
}

func largeDivisions() [][]impl.Block {
	var ones, pairs, odd []impl.Block
	for i := 0; i < impl.MaxTotal; i++ {
		ones = append(ones, impl.Block{Start: i, Size: 1, Used: true})
		pairs = append(pairs, impl.Block{Start: i, Size: 1, Used: i%2 == 0})
	}
	for next, size := 0, 1; next < impl.MaxTotal; size++ {
		size = min(size, impl.MaxTotal-next)
		odd = append(odd, impl.Block{Start: next, Size: size, Used: len(odd)%2 == 1})
		next += size
	}
	return [][]impl.Block{
		ones, pairs, odd,
		{{Start: 0, Size: impl.MaxTotal}},
		{{Start: 0, Size: impl.MaxTotal, Used: true}},
		{{Start: 0, Size: impl.MaxTotal - 1}, {Start: impl.MaxTotal - 1, Size: 1, Used: true}},
	}
}

type blocksCase struct {
	name  string
	list  []impl.Block
	total int
}

// invalidBlocks are the invalid arguments that the chapter names.
func invalidBlocks() []blocksCase {
	const most, least = math.MaxInt, math.MinInt
	cases := []blocksCase{
		{"no blocks", nil, 1},
		{"empty blocks", []impl.Block{}, 8},
		{"no blocks and no words", nil, 0},
		{"no blocks, less than no words", nil, -1},
		{"free neighbours at the beginning", []impl.Block{{Start: 0, Size: 2}, {Start: 2, Size: 3}, {Start: 5, Size: 3, Used: true}}, 8},
		{"free neighbours in the middle", []impl.Block{{Start: 0, Size: 2, Used: true}, {Start: 2, Size: 1}, {Start: 3, Size: 2}, {Start: 5, Size: 3, Used: true}}, 8},
		{"free neighbours at the end", []impl.Block{{Start: 0, Size: 2, Used: true}, {Start: 2, Size: 3}, {Start: 5, Size: 3}}, 8},
		{"a first block without words", []impl.Block{{Start: 0, Size: 0, Used: true}, {Start: 0, Size: 8}}, 8},
		{"a middle block without words", []impl.Block{{Start: 0, Size: 4}, {Start: 4, Size: 0, Used: true}, {Start: 4, Size: 4}}, 8},
		{"a last block without words", []impl.Block{{Start: 0, Size: 8}, {Start: 8, Size: 0, Used: true}}, 8},
		{"a block with less than no words", []impl.Block{{Start: 0, Size: -1, Used: true}, {Start: -1, Size: 9}}, 8},
		{"a gap before the first block", []impl.Block{{Start: 1, Size: 7, Used: true}}, 8},
		{"a gap in the middle", []impl.Block{{Start: 0, Size: 3, Used: true}, {Start: 4, Size: 4, Used: true}}, 8},
		{"an overlap", []impl.Block{{Start: 0, Size: 5, Used: true}, {Start: 4, Size: 4, Used: true}}, 8},
		{"a first word below 0", []impl.Block{{Start: -1, Size: 9, Used: true}}, 8},
		{"the same block again", []impl.Block{{Start: 0, Size: 8, Used: true}, {Start: 0, Size: 8, Used: true}}, 8},
		{"another order", []impl.Block{{Start: 4, Size: 4, Used: true}, {Start: 0, Size: 4, Used: true}}, 8},
		{"a last block that ends early", []impl.Block{{Start: 0, Size: 4, Used: true}, {Start: 4, Size: 3, Used: true}}, 8},
		{"a last block that ends late", []impl.Block{{Start: 0, Size: 4, Used: true}, {Start: 4, Size: 5, Used: true}}, 8},
		{"blocks behind the memory", []impl.Block{{Start: 0, Size: 8, Used: true}, {Start: 8, Size: 1}}, 8},
		{"more than the most words", []impl.Block{{Start: 0, Size: impl.MaxTotal + 1}}, impl.MaxTotal + 1},
		{"a memory without words", []impl.Block{{Start: 0, Size: 0}}, 0},
		{"very large memory", []impl.Block{{Start: 0, Size: most}}, most},
		{"very small memory", []impl.Block{{Start: 0, Size: least}}, least},
		{"a very large block", []impl.Block{{Start: 0, Size: most, Used: true}}, 8},
		{"a very small block", []impl.Block{{Start: 0, Size: least, Used: true}, {Start: least, Size: 8, Used: true}}, 8},
		{"a very large first word", []impl.Block{{Start: most, Size: 8, Used: true}}, 8},
		{"a very small first word", []impl.Block{{Start: least, Size: 8, Used: true}}, 8},
		{"sizes that wrap around", []impl.Block{{Start: 0, Size: most, Used: true}, {Start: most, Size: most, Used: true}, {Start: -2, Size: 10, Used: true}}, 8},
		{"sizes that wrap around behind a good block", []impl.Block{{Start: 0, Size: 8}, {Start: 8, Size: most, Used: true}, {Start: least + 7, Size: most, Used: true}, {Start: 6, Size: 2, Used: true}}, 8},
	}
	for _, total := range oddNumbers {
		cases = append(cases, blocksCase{"another total", []impl.Block{{Start: 0, Size: 8, Used: true}}, total})
	}
	return cases
}

// shortBlocks is a list of at most 3 blocks with a number of words, as the key of a map.
type shortBlocks struct {
	total, many int
	blocks      [3]impl.Block
}

// shortDivisions returns which short lists divide a memory of at most 5 words.
func shortDivisions() map[shortBlocks]bool {
	good := map[shortBlocks]bool{}
	for total := 1; total <= 5; total++ {
		for _, list := range divisions(total) {
			key := shortBlocks{total: total, many: len(list)}
			if copy(key.blocks[:], list) == len(list) {
				good[key] = true
			}
		}
	}
	return good
}

// eachShort calls check with key and with all lists of small blocks that go on from it.
func eachShort(key shortBlocks, check func(key shortBlocks)) {
	check(key)
	if key.many == len(key.blocks) {
		return
	}
	for start := -1; start <= 4; start++ {
		for size := -1; size <= 4; size++ {
			for _, used := range []bool{false, true} {
				longer := key
				longer.blocks[key.many] = impl.Block{Start: start, Size: size, Used: used}
				longer.many++
				eachShort(longer, check)
			}
		}
	}
}

// P15: for all short lists of small blocks the program agrees with the definition.
func TestBlocksValidIsTheDefinition(t *testing.T) {
	good := shortDivisions()
	eachShort(shortBlocks{}, func(key shortBlocks) {
		list := key.blocks[:key.many]
		for key.total = -1; key.total <= 5; key.total++ {
			if got := impl.BlocksValid(list, key.total); got != good[key] {
				t.Fatalf("BlocksValid(%v, %d) = %v", list, key.total, got)
			}
		}
	})
}

// P15: what divides a memory divides no larger one, and no further block fits behind it.
func TestValidBlocksDivideTheMemory(t *testing.T) {
	eachDivision(func(list []impl.Block, total int) {
		if !impl.BlocksValid(list, total) {
			t.Fatalf("BlocksValid(%v, %d) = false", list, total)
		}
		if impl.BlocksValid(list, total+1) || impl.BlocksValid(list, total-1) {
			t.Fatalf("%v divides another memory than one of %d words", list, total)
		}
		for _, used := range []bool{false, true} {
			for size := 0; size <= 2; size++ {
				longer := append(slices.Clone(list), impl.Block{Start: total, Size: size, Used: used})
				if impl.BlocksValid(longer, total) {
					t.Fatalf("BlocksValid(%v, %d) = true", longer, total)
				}
			}
		}
		if impl.BlocksValid(list[:len(list)-1], total) {
			t.Fatalf("%v divides %d words without its last block", list, total)
		}
	})
}

// P15, P17, P19: invalid blocks have the results that the chapter gives for them.
func TestInvalidBlocks(t *testing.T) {
	for _, c := range invalidBlocks() {
		if impl.BlocksValid(c.list, c.total) {
			t.Errorf("%s: BlocksValid(%v, %d) = true", c.name, c.list, c.total)
		}
		if got := impl.FreeWords(c.list, c.total); got != -1 {
			t.Errorf("%s: FreeWords(%v, %d) = %d", c.name, c.list, c.total, got)
		}
		if got := impl.LargestFree(c.list, c.total); got != -1 {
			t.Errorf("%s: LargestFree(%v, %d) = %d", c.name, c.list, c.total, got)
		}
		for _, word := range append([]int{0, 1, 4, 7, 8, impl.MaxTotal}, oddNumbers...) {
			if got := impl.BlockAt(c.list, c.total, word); got != -1 {
				t.Errorf("%s: BlockAt(%v, %d, %d) = %d", c.name, c.list, c.total, word, got)
			}
		}
	}
}

// P16: all words of a new memory are in one free block.
func TestNewMemoriesAreFree(t *testing.T) {
	for total := 1; total <= impl.MaxTotal; total++ {
		list := impl.NewBlocks(total)
		if !slices.Equal(list, []impl.Block{{Start: 0, Size: total, Used: false}}) {
			t.Fatalf("NewBlocks(%d) = %v", total, list)
		}
		if !impl.BlocksValid(list, total) {
			t.Fatalf("the blocks of NewBlocks(%d) are invalid", total)
		}
		if impl.FreeWords(list, total) != total || impl.LargestFree(list, total) != total {
			t.Fatalf("not all words of NewBlocks(%d) are free", total)
		}
	}
}

func TestNewBlocksOfOtherNumbers(t *testing.T) {
	for _, total := range append([]int{0}, oddNumbers...) {
		if list := impl.NewBlocks(total); len(list) != 0 {
			t.Errorf("NewBlocks(%d) = %v", total, list)
		}
	}
}

func TestNewBlocksShareNothing(t *testing.T) {
	first, second := impl.NewBlocks(8), impl.NewBlocks(8)
	first[0] = impl.Block{Start: 1, Size: 2, Used: true}
	fill(first[:cap(first)])
	if want := (impl.Block{Start: 0, Size: 8}); second[0] != want || impl.NewBlocks(8)[0] != want {
		t.Fatal("two new memories share their blocks")
	}
}

func fill(list []impl.Block) {
	for i := range list {
		list[i] = impl.Block{Start: -7, Size: -7, Used: true}
	}
}

// P17: the free words are those of the free blocks, at least those of the largest one, and at most all.
func TestFreeWordsAreCounted(t *testing.T) {
	eachDivision(func(list []impl.Block, total int) {
		free, largest, usedAll := 0, 0, true
		for word := 0; word < total; word++ {
			for _, b := range list {
				if !b.Used && b.Start <= word && word < b.Start+b.Size {
					free, largest, usedAll = free+1, max(largest, b.Size), false
				}
			}
		}
		if got := impl.FreeWords(list, total); got != free || got < largest || got > total || usedAll != (got == 0) {
			t.Fatalf("FreeWords(%v, %d) = %d, not %d", list, total, got, free)
		}
		if got := impl.LargestFree(list, total); got != largest {
			t.Fatalf("LargestFree(%v, %d) = %d, not %d", list, total, got, largest)
		}
	})
}

func TestFreeWordsOfOneMemory(t *testing.T) {
	list := []impl.Block{{Start: 0, Size: 2}, {Start: 2, Size: 1, Used: true}, {Start: 3, Size: 4}, {Start: 7, Size: 5, Used: true}, {Start: 12, Size: 3}, {Start: 15, Size: 1, Used: true}}
	if got := impl.FreeWords(list, 16); got != 9 {
		t.Errorf("FreeWords = %d, not 9", got)
	}
	if got := impl.LargestFree(list, 16); got != 4 {
		t.Errorf("LargestFree = %d, not 4", got)
	}
	full := []impl.Block{{Start: 0, Size: 9, Used: true}, {Start: 9, Size: 7, Used: true}}
	if free, largest := impl.FreeWords(full, 16), impl.LargestFree(full, 16); free != 0 || largest != 0 {
		t.Errorf("of full blocks %d words are free, %d of them in the largest block", free, largest)
	}
}

// P19: every word is between the beginning and the end of its block, and the next word is in the same block or the next one.
func TestEveryWordIsInOneBlock(t *testing.T) {
	eachDivision(func(list []impl.Block, total int) {
		before := 0
		for word := 0; word < total; word++ {
			number := impl.BlockAt(list, total, word)
			if number < 0 || number >= len(list) {
				t.Fatalf("BlockAt(%v, %d, %d) = %d", list, total, word, number)
			}
			b := list[number]
			if word < b.Start || word >= b.Start+b.Size {
				t.Fatalf("word %d is not in block %d of %v", word, number, list)
			}
			if number != before && number != before+1 {
				t.Fatalf("in %v word %d is in block %d, the one before it in block %d", list, word, number, before)
			}
			before = number
		}
		if before != len(list)-1 {
			t.Fatalf("the last word of %v is in block %d", list, before)
		}
	})
}

func TestNoWordOutsideTheMemory(t *testing.T) {
	eachDivision(func(list []impl.Block, total int) {
		for _, word := range append([]int{total, total + 1}, oddNumbers...) {
			if got := impl.BlockAt(list, total, word); got != -1 {
				t.Fatalf("BlockAt(%v, %d, %d) = %d", list, total, word, got)
			}
		}
	})
}

// callsOfBlocks calls every function of the chapter that has blocks as an argument.
func callsOfBlocks(list []impl.Block, total int) {
	impl.BlocksValid(list, total)
	impl.FreeWords(list, total)
	impl.LargestFree(list, total)
	for _, word := range []int{-1, 0, total / 2, total - 1, total} {
		impl.BlockAt(list, total, word)
	}
}

// TestBlocksStayUnchanged: neither the blocks nor the spare capacity behind them is written to.
func TestBlocksStayUnchanged(t *testing.T) {
	check := func(list []impl.Block, total int) {
		whole := make([]impl.Block, len(list)+3)
		fill(whole)
		copy(whole, list)
		before := slices.Clone(whole)
		callsOfBlocks(whole[:len(list)], total)
		if !slices.Equal(whole, before) {
			t.Fatalf("the blocks %v became %v", before, whole)
		}
	}
	eachDivision(check)
	for _, c := range invalidBlocks() {
		check(c.list, c.total)
	}
}
