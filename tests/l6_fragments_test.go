package tests

import (
	"math"
	"slices"
	"testing"

	"loop.example/memorymanagers/impl"
)

// spread returns blocks with free blocks of these sizes, each two with one used word between them, and the number of their words.
func spread(sizes ...int) ([]impl.Block, int) {
	var list []impl.Block
	next := 0
	for i, size := range sizes {
		if i > 0 {
			list = append(list, usedBlock(next, 1))
			next++
		}
		list = append(list, freeBlock(next, size))
		next += size
	}
	return list, next
}

// manyOf returns a number of equal sizes.
func manyOf(size int, times int) []int {
	return slices.Repeat([]int{size}, times)
}

// usedSizes returns the sizes of the used blocks, in order.
func usedSizes(list []impl.Block) []int {
	var sizes []int
	for _, b := range list {
		if b.Used {
			sizes = append(sizes, b.Size)
		}
	}
	return sizes
}

// shareOf returns the share from its definition: the greatest number of percents that is not above the exact share.
func shareOf(list []impl.Block) int {
	free := freeWordsOf(list)
	elsewhere := free - largestFreeOf(list)
	share := 0
	for free > 0 && (share+1)*free <= elsewhere*100 {
		share++
	}
	return share
}

// slidOf returns the blocks and the number of moved words that SlideBlocks must return, from the words: free ones are taken away before each used block.
func slidOf(list []impl.Block, total int) ([]impl.Block, int) {
	slid, moved := slices.Clone(list), 0
	freeBefore := 0
	for i, b := range list {
		if !b.Used {
			freeBefore += b.Size
			continue
		}
		slid[i].Start -= freeBefore
		if freeBefore > 0 {
			moved += b.Size
		}
	}
	slid = slices.DeleteFunc(slid, func(b impl.Block) bool { return !b.Used })
	if freeBefore > 0 {
		slid = append(slid, impl.Block{Start: total - freeBefore, Size: freeBefore})
	}
	return slid, moved
}

// takenSlidingOf returns what TakeSliding must return for valid blocks, from its definition.
func takenSlidingOf(list []impl.Block, total int, size int) ([]impl.Block, bool) {
	if size < 1 || size > freeWordsOf(list) {
		return list, false
	}
	if fits := fitsOf(list, size); len(fits) > 0 {
		return takenOf(list, fits[0], size), true
	}
	slid, _ := slidOf(list, total)
	return takenOf(slid, len(slid)-1, size), true
}

// checkFragments compares all functions of the chapter with their definitions for valid blocks and some numbers of words.
func checkFragments(t *testing.T, list []impl.Block, total int, sizes []int) {
	t.Helper()
	if got, want := impl.Fragmented(list, total), shareOf(list); got != want {
		t.Fatalf("Fragmented(%v, %d) = %d, not %d", list, total, got, want)
	}
	wantSlid, wantMoved := slidOf(list, total)
	if got, moved := impl.SlideBlocks(list, total); !slices.Equal(got, wantSlid) || moved != wantMoved {
		t.Fatalf("SlideBlocks(%v, %d) = %v, %d, not %v, %d", list, total, got, moved, wantSlid, wantMoved)
	}
	for _, size := range sizes {
		want, wantOk := takenSlidingOf(list, total, size)
		if got, ok := impl.TakeSliding(list, total, size); ok != wantOk || !slices.Equal(got, want) {
			t.Fatalf("TakeSliding(%v, %d, %d) = %v, %v, not %v, %v", list, total, size, got, ok, want, wantOk)
		}
	}
}

// checkNoFragments fails unless all functions of the chapter return what it gives for invalid blocks.
func checkNoFragments(t *testing.T, list []impl.Block, total int, sizes []int) {
	t.Helper()
	if got := impl.Fragmented(list, total); got != -1 {
		t.Fatalf("Fragmented(%v, %d) = %d", list, total, got)
	}
	if got, moved := impl.SlideBlocks(list, total); len(got) != 0 || moved != -1 {
		t.Fatalf("SlideBlocks(%v, %d) = %v, %d", list, total, got, moved)
	}
	for _, size := range sizes {
		if got, ok := impl.TakeSliding(list, total, size); ok || len(got) != 0 {
			t.Fatalf("TakeSliding(%v, %d, %d) = %v, %v", list, total, size, got, ok)
		}
	}
}

// P39: the share is 0 exactly if at most one free block is there, or less than 1 percent is elsewhere; after SlideBlocks it is 0.
func checkShare(t *testing.T, list []impl.Block, total int) {
	t.Helper()
	share, free, largest := impl.Fragmented(list, total), freeWordsOf(list), largestFreeOf(list)
	if want := shareOf(list); share != want || share < 0 || share > 99 {
		t.Fatalf("Fragmented(%v, %d) = %d, not %d", list, total, share, want)
	}
	little := len(fitsOf(list, 1)) <= 1 || (free-largest)*100 < free
	if little != (share == 0) {
		t.Fatalf("Fragmented(%v, %d) = %d, but %d of %d free words are in the largest block", list, total, share, largest, free)
	}
	slid, _ := impl.SlideBlocks(list, total)
	if after := impl.Fragmented(slid, total); after != 0 {
		t.Fatalf("Fragmented(%v, %d) = %d after SlideBlocks", slid, total, after)
	}
}

func TestSharesAreInPercent(t *testing.T) {
	eachFitting(func(list []impl.Block, total int) { checkShare(t, list, total) })
}

// P39: with two free blocks of any sizes all shares from 0 to 50 are there, those around 1 percent among them.
func TestSharesOfTwoFreeBlocks(t *testing.T) {
	for first := 1; first < impl.MaxTotal-1; first++ {
		for second := 1; first+1+second <= impl.MaxTotal; second++ {
			list, total := spread(first, second)
			checkShare(t, list, total)
		}
	}
}

func TestSharesOfFreeBlocks(t *testing.T) {
	for _, c := range []struct {
		name string
		free []int
		want int
	}{
		{"one free block", []int{8}, 0},
		{"one free word", []int{1}, 0},
		{"the largest memory", []int{impl.MaxTotal}, 0},
		{"two of the same size", []int{4, 4}, 50},
		{"two single words", []int{1, 1}, 50},
		{"three of the same size, rounded down from 66 2/3", []int{3, 3, 3}, 66},
		{"the largest one first, rounded down from 33 1/3", []int{2, 1}, 33},
		{"the largest one last, rounded down from 33 1/3", []int{1, 2}, 33},
		{"the largest one between, rounded down from 42 6/7", []int{1, 4, 2}, 42},
		{"seven of the same size, rounded down from 85 5/7", manyOf(1, 7), 85},
		{"one word of 101 is just below 1 percent", []int{100, 1}, 0},
		{"one word of 101 at the beginning", []int{1, 100}, 0},
		{"one word of 100 is 1 percent", []int{99, 1}, 1},
		{"one word of 100 at the beginning", []int{1, 99}, 1},
		{"one word of 99 is just above 1 percent", []int{98, 1}, 1},
		{"two words of 201 are just below 1 percent", []int{1, 199, 1}, 0},
		{"two words of 200 are 1 percent", []int{1, 198, 1}, 1},
		{"two words of 199 are just above 1 percent", []int{1, 197, 1}, 1},
		{"one word in the largest memory", []int{254, 1}, 0},
		{"two words in the largest memory", []int{253, 2}, 0},
		{"three words in the largest memory", []int{252, 3}, 1},
		{"two words of 101 are just below 2 percent", []int{99, 2}, 1},
		{"two words of 100 are 2 percent", []int{98, 2}, 2},
		{"99 of 199 words are just below 50 percent", []int{100, 99}, 49},
		{"99 of 100 words", manyOf(1, 100), 99},
		{"as many single words as there can be, rounded down from 99 7/32", manyOf(1, impl.MaxTotal/2), 99},
	} {
		list, total := spread(c.free...)
		if got := impl.Fragmented(list, total); got != c.want {
			t.Errorf("%s: Fragmented = %d, not %d", c.name, got, c.want)
		}
	}
}

// P39, P40, P41: full memories have nothing to take or to move, memories in which nothing is used are one block.
func TestFragmentsOfWholeMemories(t *testing.T) {
	for total := 1; total <= impl.MaxTotal; total++ {
		empty := []impl.Block{{Start: 0, Size: total}}
		full := []impl.Block{{Start: 0, Size: total, Used: true}}
		words := make([]impl.Block, total)
		for i := range words {
			words[i] = impl.Block{Start: i, Size: 1, Used: true}
		}
		for _, list := range [][]impl.Block{empty, full, words} {
			if got := impl.Fragmented(list, total); got != 0 {
				t.Fatalf("Fragmented(%v, %d) = %d", list, total, got)
			}
			if got, moved := impl.SlideBlocks(list, total); moved != 0 || !slices.Equal(got, list) {
				t.Fatalf("SlideBlocks(%v, %d) = %v, %d", list, total, got, moved)
			}
		}
		for _, size := range []int{1, total, impl.MaxTotal} {
			refusedSliding(t, full, total, size)
			refusedSliding(t, words, total, size)
		}
		refusedSliding(t, empty, total, total+1)
		if got, ok := impl.TakeSliding(empty, total, total); !ok || !slices.Equal(got, full) {
			t.Fatalf("TakeSliding(%v, %d, %d) = %v, %v", empty, total, total, got, ok)
		}
	}
}

// P40: all free words are in one block behind the used ones, which have the same sizes in the same order; sliding again moves nothing.
func TestSlidBlocksAreTogether(t *testing.T) {
	eachFitting(func(list []impl.Block, total int) {
		slid, moved := impl.SlideBlocks(list, total)
		want, wantMoved := slidOf(list, total)
		if !slices.Equal(slid, want) || moved != wantMoved {
			t.Fatalf("SlideBlocks(%v, %d) = %v, %d, not %v, %d", list, total, slid, moved, want, wantMoved)
		}
		if !impl.BlocksValid(slid, total) || !slices.Equal(usedSizes(slid), usedSizes(list)) {
			t.Fatalf("SlideBlocks(%v, %d) = %v", list, total, slid)
		}
		if free := freeWordsOf(list); freeWordsOf(slid) != free || largestFreeOf(slid) != free || free > 0 && slid[len(slid)-1].Used {
			t.Fatalf("%d words are free in %v, and SlideBlocks leads to %v", free, list, slid)
		}
		if again, moved := impl.SlideBlocks(slid, total); moved != 0 || !slices.Equal(again, slid) {
			t.Fatalf("SlideBlocks(%v, %d) = %v, %d", slid, total, again, moved)
		}
	})
}

func TestSlideBlocksOfOneMemory(t *testing.T) {
	for _, c := range []struct {
		name  string
		list  []impl.Block
		want  []impl.Block
		moved int
	}{
		{"free at the beginning", []impl.Block{freeBlock(0, 3), usedBlock(3, 1), usedBlock(4, 4)}, []impl.Block{usedBlock(0, 1), usedBlock(1, 4), freeBlock(5, 3)}, 5},
		{"free between", []impl.Block{usedBlock(0, 2), freeBlock(2, 5), usedBlock(7, 1)}, []impl.Block{usedBlock(0, 2), usedBlock(2, 1), freeBlock(3, 5)}, 1},
		{"free at the end", []impl.Block{usedBlock(0, 2), usedBlock(2, 5), freeBlock(7, 1)}, []impl.Block{usedBlock(0, 2), usedBlock(2, 5), freeBlock(7, 1)}, 0},
		{"free at the beginning and at the end", []impl.Block{freeBlock(0, 1), usedBlock(1, 4), freeBlock(5, 3)}, []impl.Block{usedBlock(0, 4), freeBlock(4, 4)}, 4},
		{"free everywhere", []impl.Block{freeBlock(0, 1), usedBlock(1, 2), freeBlock(3, 1), usedBlock(4, 1), freeBlock(5, 3)}, []impl.Block{usedBlock(0, 2), usedBlock(2, 1), freeBlock(3, 5)}, 3},
		{"some stay and some move", []impl.Block{usedBlock(0, 2), usedBlock(2, 1), freeBlock(3, 1), usedBlock(4, 3), freeBlock(7, 1)}, []impl.Block{usedBlock(0, 2), usedBlock(2, 1), usedBlock(3, 3), freeBlock(6, 2)}, 3},
		{"a large block moves by one word", []impl.Block{freeBlock(0, 1), usedBlock(1, 7)}, []impl.Block{usedBlock(0, 7), freeBlock(7, 1)}, 7},
		{"a single word moves by seven", []impl.Block{freeBlock(0, 7), usedBlock(7, 1)}, []impl.Block{usedBlock(0, 1), freeBlock(1, 7)}, 1},
		{"several of the same size", []impl.Block{freeBlock(0, 2), usedBlock(2, 2), freeBlock(4, 2), usedBlock(6, 2)}, []impl.Block{usedBlock(0, 2), usedBlock(2, 2), freeBlock(4, 4)}, 4},
		{"nothing is free", []impl.Block{usedBlock(0, 3), usedBlock(3, 5)}, []impl.Block{usedBlock(0, 3), usedBlock(3, 5)}, 0},
		{"nothing is used", []impl.Block{freeBlock(0, 8)}, []impl.Block{freeBlock(0, 8)}, 0},
	} {
		if got, moved := impl.SlideBlocks(c.list, 8); moved != c.moved || !slices.Equal(got, c.want) {
			t.Errorf("%s: SlideBlocks(%v, 8) = %v, %d, not %v, %d", c.name, c.list, got, moved, c.want, c.moved)
		}
	}
}

// refusedSliding fails unless TakeSliding returns the blocks unchanged and false.
func refusedSliding(t *testing.T, list []impl.Block, total int, size int) {
	t.Helper()
	if got, ok := impl.TakeSliding(list, total, size); ok || !slices.Equal(got, list) {
		t.Fatalf("TakeSliding(%v, %d, %d) = %v, %v", list, total, size, got, ok)
	}
}

// P41: it succeeds exactly if so many words are free, and then so many fewer are; nothing slides if a block fits or too few words are free.
func TestFreeWordsCanBeTaken(t *testing.T) {
	eachFitting(func(list []impl.Block, total int) {
		free := freeWordsOf(list)
		for size := 1; size <= impl.MaxTotal; size++ {
			want, wantOk := takenSlidingOf(list, total, size)
			got, ok := impl.TakeSliding(list, total, size)
			if ok != wantOk || !slices.Equal(got, want) {
				t.Fatalf("TakeSliding(%v, %d, %d) = %v, %v, not %v, %v", list, total, size, got, ok, want, wantOk)
			}
			if ok != (size <= free) || !impl.BlocksValid(got, total) {
				t.Fatalf("TakeSliding(%v, %d, %d) = %v, %v, and %d words are free", list, total, size, got, ok, free)
			}
			if left := impl.FreeWords(got, total); ok && left != free-size || !ok && left != free {
				t.Fatalf("TakeSliding(%v, %d, %d) leaves %d of %d free words", list, total, size, left, free)
			}
		}
	})
}

func TestTakeSlidingOfOneMemory(t *testing.T) {
	list := []impl.Block{freeBlock(0, 2), usedBlock(2, 1), freeBlock(3, 3), usedBlock(6, 2), freeBlock(8, 2)}
	for _, c := range []changeCase{
		{"the first block fits", list, 0, 1, []impl.Block{usedBlock(0, 1), freeBlock(1, 1), usedBlock(2, 1), freeBlock(3, 3), usedBlock(6, 2), freeBlock(8, 2)}},
		{"the first block fits exactly, not the last one of the same size", list, 0, 2, []impl.Block{usedBlock(0, 2), usedBlock(2, 1), freeBlock(3, 3), usedBlock(6, 2), freeBlock(8, 2)}},
		{"the largest block fits exactly", list, 0, 3, []impl.Block{freeBlock(0, 2), usedBlock(2, 1), usedBlock(3, 3), usedBlock(6, 2), freeBlock(8, 2)}},
		{"one word more fits only after sliding", list, 0, 4, []impl.Block{usedBlock(0, 1), usedBlock(1, 2), usedBlock(3, 4), freeBlock(7, 3)}},
		{"all free words but one", list, 0, 6, []impl.Block{usedBlock(0, 1), usedBlock(1, 2), usedBlock(3, 6), freeBlock(9, 1)}},
		{"all free words", list, 0, 7, []impl.Block{usedBlock(0, 1), usedBlock(1, 2), usedBlock(3, 7)}},
	} {
		if got, ok := impl.TakeSliding(c.list, 10, c.size); !ok || !slices.Equal(got, c.want) {
			t.Errorf("%s: TakeSliding = %v, %v, not %v", c.name, got, ok, c.want)
		}
	}
	refusedSliding(t, list, 10, 8)
	refusedSliding(t, list, 10, 10)
}

// P41: numbers of words that cannot be asked for are refused, and the blocks stay where they are.
func TestTakeSlidingOfOtherSizes(t *testing.T) {
	eachFitting(func(list []impl.Block, total int) {
		for _, size := range oddSizes {
			refusedSliding(t, list, total, size)
		}
	})
}

// P117: after SlideBlocks there is a block for every number of words that are free, and for no word more.
func TestSlidMemoryFitsEverything(t *testing.T) {
	eachFitting(func(list []impl.Block, total int) {
		slid, _ := impl.SlideBlocks(list, total)
		free := freeWordsOf(list)
		for size := 1; size <= impl.MaxTotal; size++ {
			number := impl.FirstFit(slid, total, size)
			if (number >= 0) != (size <= free) {
				t.Fatalf("%d words are free in %v, and FirstFit of %d words is %d after SlideBlocks", free, list, size, number)
			}
			if number < 0 {
				continue
			}
			taken, ok := impl.TakeBlock(slid, total, number, size)
			if !ok || impl.FreeWords(taken, total) != free-size {
				t.Fatalf("TakeBlock(%v, %d, %d, %d) = %v, %v", slid, total, number, size, taken, ok)
			}
		}
	})
}

// askedSizes are numbers of words that can be asked for and those that cannot.
var askedSizes = append([]int{1, 2, 7, 8, impl.MaxTotal - 1, impl.MaxTotal}, oddSizes...)

// P39, P40, P41: invalid blocks have the results that the chapter gives for them, whatever the number of words is.
func TestFragmentsOfInvalidBlocks(t *testing.T) {
	for _, c := range invalidBlocks() {
		checkNoFragments(t, c.list, c.total, askedSizes)
	}
	for _, times := range []int{impl.MaxTotal/2 + 1, impl.MaxTotal, 1000} {
		list, total := spread(manyOf(1, times)...)
		checkNoFragments(t, list, total, askedSizes)
	}
}

// P39, P40, P41: blocks that divide a memory are invalid for every other number of words.
func TestFragmentsOfOtherTotals(t *testing.T) {
	eachFitting(func(list []impl.Block, total int) {
		for _, other := range append([]int{total - 1, total + 1, -total}, oddSizes...) {
			checkNoFragments(t, list, other, []int{1, total, other})
		}
	})
}

// TestFragmentsOfShortLists: for all short lists of small blocks, valid or not, the functions return what the chapter gives.
func TestFragmentsOfShortLists(t *testing.T) {
	good := shortDivisions()
	sizes := []int{0, 1, 2, 5}
	eachShort(shortBlocks{}, func(key shortBlocks) {
		list := key.blocks[:key.many]
		for key.total = -1; key.total <= 5; key.total++ {
			if good[key] {
				checkFragments(t, list, key.total, sizes)
			} else {
				checkNoFragments(t, list, key.total, sizes)
			}
		}
	})
}

// TestFragmentsReturnForAllNumbers: for every number a size or a total can be the functions return what the chapter gives.
func TestFragmentsReturnForAllNumbers(t *testing.T) {
	numbers := manyNumbers()
	checkFragments(t, mixedBlocks(), mixedTotal, numbers)
	for _, number := range numbers {
		if number != mixedTotal {
			checkNoFragments(t, mixedBlocks(), number, []int{1, number})
		}
	}
}

// TestFragmentsOfExtremeBlocks: for blocks of very large and very small numbers the functions return what the chapter gives; no list ends where one of the totals does, unless numbers wrap around.
func TestFragmentsOfExtremeBlocks(t *testing.T) {
	extremes := []int{math.MinInt, math.MinInt + 1, -1, 0, 1, 8, math.MaxInt - 1, math.MaxInt}
	for _, start := range extremes {
		for _, size := range extremes {
			for _, next := range extremes {
				two := []impl.Block{freeBlock(start, size), usedBlock(next, size)}
				three := []impl.Block{usedBlock(0, 8), freeBlock(start, size), usedBlock(next, 1)}
				for _, total := range extremes {
					checkNoFragments(t, two, total, []int{1, total})
					checkNoFragments(t, three, total, []int{1, total})
				}
			}
		}
	}
}

// resultsOfFragments calls every function of the chapter, with requests that succeed and with refused ones, and returns the blocks of all results.
func resultsOfFragments(list []impl.Block, total int) [][]impl.Block {
	impl.Fragmented(list, total)
	slid, _ := impl.SlideBlocks(list, total)
	results := [][]impl.Block{slid}
	free := freeWordsOf(list)
	for _, size := range []int{-1, 0, 1, 2, free - 1, free, free + 1, total, total + 1} {
		taken, _ := impl.TakeSliding(list, total, size)
		results = append(results, taken)
	}
	return results
}

// TestFragmentsShareNothing: no argument changes, not even when all results are overwritten, and neither does another result.
func TestFragmentsShareNothing(t *testing.T) {
	eachArgument(func(list []impl.Block, total int) {
		checkSharesNothing(t, resultsOfFragments, list, total)
	})
}
