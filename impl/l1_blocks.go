package impl

import "sort"

// Block is a part of the memory: its first word, the number of its words, and whether it is used.
type Block struct {
	Start int
	Size  int
	Used  bool
}

// MaxTotal is the maximum number of words of a memory.
const MaxTotal = 256

// BlocksValid reports whether blocks divide a memory with a number of words, total, in 1..MaxTotal: the first one begins with word 0, each has at least one word, every further one begins where the one before it ends, the last one ends with word total - 1, and no two neighbouring ones are both free.
func BlocksValid(list []Block, total int) bool {
	if !wordsValid(total) {
		return false
	}
	next := 0
	for i, b := range list {
		// The size is compared with the words that are left: Start + Size may overflow.
		if b.Start != next || b.Size < 1 || b.Size > total-next {
			return false
		}
		if i > 0 && !b.Used && !list[i-1].Used {
			return false
		}
		next += b.Size
	}
	return next == total
}

// wordsValid reports whether a number of words, of a memory or of a block that is asked for, is in 1..MaxTotal.
func wordsValid(words int) bool {
	return words >= 1 && words <= MaxTotal
}

// NewBlocks returns the blocks of a memory with a number of words in 1..MaxTotal in which nothing is used: one free block; nil for other numbers.
func NewBlocks(total int) []Block {
	if !wordsValid(total) {
		return nil
	}
	return []Block{{Start: 0, Size: total}}
}

// FreeWords returns how many words of valid blocks are in free ones; -1 for other arguments.
func FreeWords(list []Block, total int) int {
	if !BlocksValid(list, total) {
		return -1
	}
	words := 0
	for _, b := range list {
		if !b.Used {
			words += b.Size
		}
	}
	return words
}

// LargestFree returns the number of words of the largest free one of valid blocks, 0 if there is none; -1 for other arguments.
func LargestFree(list []Block, total int) int {
	if !BlocksValid(list, total) {
		return -1
	}
	largest := 0
	for _, b := range list {
		if !b.Used {
			largest = max(largest, b.Size)
		}
	}
	return largest
}

// BlockAt returns the number of the one of valid blocks in which a word is; -1 if there is no such word, and for other arguments.
func BlockAt(list []Block, total int, word int) int {
	if !BlocksValid(list, total) || word < 0 || word >= total {
		return -1
	}
	// Valid blocks are sorted by Start, and the first one begins with word 0: a block is always before the one that is found.
	behind := sort.Search(len(list), func(i int) bool { return list[i].Start > word })
	return behind - 1
}
