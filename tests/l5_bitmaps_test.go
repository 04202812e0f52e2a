package tests

import (
	"math"
	"slices"
	"testing"

	"loop.example/memorymanagers/impl"
)

// oddMany are numbers of words that cannot be asked for in a bitmap, among them such whose last bits would do.
var oddMany = []int{0, -1, -2, -63, -64, -65, -256, 65, 66, 127, 128, 256, 1 << 31, 1 << 32, 1<<32 + 1, 1<<32 + 64, math.MaxInt, math.MaxInt - 1, math.MaxInt - 63, math.MinInt, math.MinInt + 1, math.MinInt + 64}

// oddStarts are numbers that no word of a bitmap has, among them such that wrap around with a number of words added.
var oddStarts = []int{-1, -2, -63, -64, -65, -256, 64, 65, 127, 128, 256, 1 << 31, 1 << 32, 1<<32 + 1, math.MaxInt, math.MaxInt - 1, math.MaxInt - 62, math.MaxInt - 63, math.MaxInt - 64, math.MinInt, math.MinInt + 1, math.MinInt + 64}

// usedWords are words of a bitmap that are all used.
func usedWords(many int) []bool {
	return slices.Repeat([]bool{true}, many)
}

// freeWords are words of a bitmap that are all free.
func freeWords(many int) []bool {
	return make([]bool, many)
}

// turnedOver returns the bitmap in which used words are free, and free ones used.
func turnedOver(bitmap []bool) []bool {
	other := slices.Clone(bitmap)
	for k := range other {
		other[k] = !other[k]
	}
	return other
}

// turnedRound returns the bitmap from its last word to its first one.
func turnedRound(bitmap []bool) []bool {
	other := slices.Clone(bitmap)
	slices.Reverse(other)
	return other
}

// allBitmaps returns all bitmaps with a number of words.
func allBitmaps(length int) [][]bool {
	all := [][]bool{{}}
	for range length {
		var longer [][]bool
		for _, bitmap := range all {
			longer = append(longer, slices.Concat(bitmap, freeWords(1)), slices.Concat(bitmap, usedWords(1)))
		}
		all = longer
	}
	return all
}

// longBitmaps returns bitmaps with a number of words of at least 16: with one run of free words at the beginning, at the end and between, with several runs, and the same with used words.
func longBitmaps(length int) [][]bool {
	var all [][]bool
	add := func(parts ...[]bool) {
		bitmap := slices.Concat(parts...)
		all = append(all, bitmap, turnedOver(bitmap))
	}
	add(freeWords(length))
	for _, run := range []int{1, 2, 7, length / 2, length - 2, length - 1} {
		rest := length - run
		for _, before := range []int{0, 1, rest / 2, rest - 1, rest} {
			add(usedWords(before), freeWords(run), usedWords(rest-before))
		}
	}
	for step := 1; step <= 5; step++ {
		mixed := freeWords(length)
		for k := range mixed {
			mixed[k] = k/step%2 == 0
		}
		add(mixed)
	}
	// Runs of 1, 2, 3 .. words, and a used word behind each of them.
	var stairs []bool
	for run := 1; len(stairs) < length; run++ {
		stairs = slices.Concat(stairs, freeWords(run), usedWords(1))
	}
	add(stairs[:length])
	add(turnedRound(stairs[:length]))
	return all
}

// eachBitmap calls check with all bitmaps of up to 8 words, and with some that are longer, up to MaxBits words.
func eachBitmap(check func(bitmap []bool)) {
	for length := range 9 {
		for _, bitmap := range allBitmaps(length) {
			check(bitmap)
		}
	}
	for _, length := range []int{31, 32, 33, impl.MaxBits - 1, impl.MaxBits} {
		for _, bitmap := range longBitmaps(length) {
			check(bitmap)
		}
	}
}

// eachRange calls check with every start and number of words that lie within a bitmap.
func eachRange(bitmap []bool, check func(start, many int)) {
	for start := range bitmap {
		for many := 1; start+many <= len(bitmap); many++ {
			check(start, many)
		}
	}
}

// allAre reports whether words within a bitmap are all used, or all free.
func allAre(bitmap []bool, start, many int, used bool) bool {
	return !slices.Contains(bitmap[start:start+many], !used)
}

// withWords returns the bitmap in which words within it are used, or free.
func withWords(bitmap []bool, start, many int, used bool) []bool {
	changed := slices.Clone(bitmap)
	for k := start; k < start+many; k++ {
		changed[k] = used
	}
	return changed
}

// foundOf returns what BitsFind must return for a number of words in 1..MaxBits, from its definition.
func foundOf(bitmap []bool, many int) int {
	for start := 0; start+many <= len(bitmap); start++ {
		if allAre(bitmap, start, many, false) {
			return start
		}
	}
	return -1
}

// longestOf returns what BitsLongest must return, from its definition.
func longestOf(bitmap []bool) int {
	longest := 0
	eachRange(bitmap, func(start, many int) {
		if allAre(bitmap, start, many, false) {
			longest = max(longest, many)
		}
	})
	return longest
}

// bitsChange is BitsTake or BitsGive.
type bitsChange func(bits []bool, start int, many int) ([]bool, bool)

// changedBits fails unless a change succeeds and leads to a bitmap.
func changedBits(t *testing.T, change bitsChange, bitmap []bool, start, many int, want []bool) {
	t.Helper()
	if got, ok := change(bitmap, start, many); !ok || !slices.Equal(got, want) {
		t.Fatalf("%d words from %d on of %v: %v, %v, not %v", many, start, bitmap, got, ok, want)
	}
}

// refusedBits fails unless a change returns the bitmap unchanged and false.
func refusedBits(t *testing.T, change bitsChange, bitmap []bool, start, many int) {
	t.Helper()
	if got, ok := change(bitmap, start, many); ok || !slices.Equal(got, bitmap) {
		t.Fatalf("%d words from %d on of %v: %v, %v", many, start, bitmap, got, ok)
	}
}

// nothingOfBits fails unless a change returns nil and false.
func nothingOfBits(t *testing.T, change bitsChange, bitmap []bool, start, many int) {
	t.Helper()
	if got, ok := change(bitmap, start, many); ok || len(got) != 0 {
		t.Fatalf("%d words from %d on of %d words: %v, %v", many, start, len(bitmap), got, ok)
	}
}

func TestBitmapsOfTheChapter(t *testing.T) {
	if impl.MaxBits != 64 {
		t.Errorf("MaxBits is %d", impl.MaxBits)
	}
}

// P35: the words can be taken, and no earlier ones can; so many words follow each other exactly if BitsLongest is at least their number.
func TestFoundWordsAreFree(t *testing.T) {
	eachBitmap(func(bitmap []bool) {
		longest := impl.BitsLongest(bitmap)
		for many := 1; many <= impl.MaxBits; many++ {
			found := impl.BitsFind(bitmap, many)
			if want := foundOf(bitmap, many); found != want {
				t.Fatalf("BitsFind(%v, %d) = %d, not %d", bitmap, many, found, want)
			}
			if (found >= 0) != (longest >= many) {
				t.Fatalf("BitsFind(%v, %d) = %d, and BitsLongest is %d", bitmap, many, found, longest)
			}
			if found < 0 {
				continue
			}
			changedBits(t, impl.BitsTake, bitmap, found, many, withWords(bitmap, found, many, true))
			for earlier := range found {
				refusedBits(t, impl.BitsTake, bitmap, earlier, many)
			}
		}
	})
}

// P38: BitsFind finds so many words, if there are some, and not one more; turned round the bitmap has the same number.
func TestLongestRunsAreFound(t *testing.T) {
	eachBitmap(func(bitmap []bool) {
		longest := impl.BitsLongest(bitmap)
		if want := longestOf(bitmap); longest != want {
			t.Fatalf("BitsLongest(%v) = %d, not %d", bitmap, longest, want)
		}
		if found := impl.BitsFind(bitmap, longest); (found >= 0) != (longest > 0) {
			t.Fatalf("BitsFind(%v, %d) = %d", bitmap, longest, found)
		}
		if found := impl.BitsFind(bitmap, longest+1); found != -1 {
			t.Fatalf("BitsFind(%v, %d) = %d, and BitsLongest is %d", bitmap, longest+1, found, longest)
		}
		if other := impl.BitsLongest(turnedRound(bitmap)); other != longest {
			t.Fatalf("BitsLongest(%v) = %d, and %d if it is turned round", bitmap, longest, other)
		}
	})
}

// P35, P38: runs at the beginning, at the end and between, as long as what is asked for, and one word shorter.
func TestRunsOfOneBitmap(t *testing.T) {
	const last = impl.MaxBits
	for _, c := range []struct {
		name                string
		bitmap              []bool
		many, want, longest int
	}{
		{"an empty bitmap", nil, 1, -1, 0},
		{"an empty bitmap, all that can be asked for", []bool{}, last, -1, 0},
		{"one free word", freeWords(1), 1, 0, 1},
		{"one free word, a word more", freeWords(1), 2, -1, 1},
		{"one used word", usedWords(1), 1, -1, 0},
		{"a run at the beginning", slices.Concat(freeWords(3), usedWords(4)), 3, 0, 3},
		{"a run at the beginning, one word too short", slices.Concat(freeWords(3), usedWords(4)), 4, -1, 3},
		{"a run at the end", slices.Concat(usedWords(4), freeWords(3)), 3, 4, 3},
		{"a run at the end, one word too short", slices.Concat(usedWords(4), freeWords(3)), 4, -1, 3},
		{"a run between", slices.Concat(usedWords(2), freeWords(3), usedWords(2)), 3, 2, 3},
		{"a run between, one word too short", slices.Concat(usedWords(2), freeWords(3), usedWords(2)), 4, -1, 3},
		{"the first of two equal runs", slices.Concat(usedWords(1), freeWords(2), usedWords(1), freeWords(2)), 2, 1, 2},
		{"a longer run behind a shorter one", slices.Concat(freeWords(2), usedWords(1), freeWords(3)), 3, 3, 3},
		{"a longer run before a shorter one", slices.Concat(freeWords(3), usedWords(1), freeWords(2)), 3, 0, 3},
		{"the words of two runs are not one run", slices.Concat(freeWords(3), usedWords(1), freeWords(3)), 6, -1, 3},
		{"MaxBits free words, one", freeWords(last), 1, 0, last},
		{"MaxBits free words, all but one", freeWords(last), last - 1, 0, last},
		{"MaxBits free words, all", freeWords(last), last, 0, last},
		{"one word less than MaxBits", freeWords(last - 1), last, -1, last - 1},
		{"MaxBits used words", usedWords(last), 1, -1, 0},
		{"the last one of MaxBits words", slices.Concat(usedWords(last-1), freeWords(1)), 1, last - 1, 1},
		{"the last one of MaxBits words, a word more", slices.Concat(usedWords(last-1), freeWords(1)), 2, -1, 1},
		{"all but the first one of MaxBits words", slices.Concat(usedWords(1), freeWords(last-1)), last - 1, 1, last - 1},
		{"all but the first one of MaxBits words, a word more", slices.Concat(usedWords(1), freeWords(last-1)), last, -1, last - 1},
		{"all but the last one of MaxBits words", slices.Concat(freeWords(last-1), usedWords(1)), last - 1, 0, last - 1},
		{"the half of MaxBits words at the end", slices.Concat(usedWords(last/2), freeWords(last/2)), last / 2, last / 2, last / 2},
	} {
		if got := impl.BitsFind(c.bitmap, c.many); got != c.want {
			t.Errorf("%s: BitsFind of %d words is %d, not %d", c.name, c.many, got, c.want)
		}
		if got := impl.BitsLongest(c.bitmap); got != c.longest {
			t.Errorf("%s: BitsLongest is %d, not %d", c.name, got, c.longest)
		}
	}
}

// P36: giving the words back leads to the bitmap before; taking them again is refused.
func TestTakenWordsCanBeGivenBack(t *testing.T) {
	eachBitmap(func(bitmap []bool) {
		eachRange(bitmap, func(start, many int) {
			if !allAre(bitmap, start, many, false) {
				refusedBits(t, impl.BitsTake, bitmap, start, many)
				return
			}
			taken := withWords(bitmap, start, many, true)
			changedBits(t, impl.BitsTake, bitmap, start, many, taken)
			changedBits(t, impl.BitsGive, taken, start, many, bitmap)
			refusedBits(t, impl.BitsTake, taken, start, many)
		})
	})
}

// P37: taking the words again leads to the bitmap before; giving them again is refused.
func TestGivenWordsCanBeTakenAgain(t *testing.T) {
	eachBitmap(func(bitmap []bool) {
		eachRange(bitmap, func(start, many int) {
			if !allAre(bitmap, start, many, true) {
				refusedBits(t, impl.BitsGive, bitmap, start, many)
				return
			}
			given := withWords(bitmap, start, many, false)
			changedBits(t, impl.BitsGive, bitmap, start, many, given)
			changedBits(t, impl.BitsTake, given, start, many, bitmap)
			refusedBits(t, impl.BitsGive, given, start, many)
		})
	})
}

// P36, P37: the bitmaps and words that the chapter's sentences are about, taken, and given with used and free words exchanged.
func TestChangesOfOneBitmap(t *testing.T) {
	const last = impl.MaxBits
	for _, c := range []struct {
		name        string
		bitmap      []bool
		start, many int
		ok          bool
	}{
		{"the only word", freeWords(1), 0, 1, true},
		{"the only word, which is used", usedWords(1), 0, 1, false},
		{"a word of an empty bitmap", nil, 0, 1, false},
		{"as many words of an empty bitmap as can be asked for", nil, 0, last, false},
		{"the first word", freeWords(7), 0, 1, true},
		{"words at the end", freeWords(7), 4, 3, true},
		{"words that reach one behind the end", freeWords(7), 4, 4, false},
		{"the word behind the end", freeWords(7), 7, 1, false},
		{"words that begin one before the beginning", freeWords(7), -1, 3, false},
		{"all words", freeWords(7), 0, 7, true},
		{"all words, and one more", freeWords(7), 0, 8, false},
		{"words with a used one at their beginning", slices.Concat(usedWords(1), freeWords(6)), 0, 3, false},
		{"words with a used one among them", slices.Concat(freeWords(1), usedWords(1), freeWords(5)), 0, 3, false},
		{"words with a used one at their end", slices.Concat(freeWords(2), usedWords(1), freeWords(4)), 0, 3, false},
		{"words before a used one", slices.Concat(freeWords(3), usedWords(1), freeWords(3)), 0, 3, true},
		{"words behind a used one", slices.Concat(freeWords(3), usedWords(1), freeWords(3)), 4, 3, true},
		{"all of MaxBits words", freeWords(last), 0, last, true},
		{"all of MaxBits words, from the second one on", freeWords(last), 1, last, false},
		{"all but the first one of MaxBits words", freeWords(last), 1, last - 1, true},
		{"all but the last one of MaxBits words", freeWords(last), 0, last - 1, true},
		{"the last one of MaxBits words", freeWords(last), last - 1, 1, true},
		{"the last one of MaxBits words, and one behind it", freeWords(last), last - 1, 2, false},
		{"the word behind MaxBits words", freeWords(last), last, 1, false},
		{"all words but one that is used at the end of MaxBits words", slices.Concat(freeWords(last-1), usedWords(1)), 0, last - 1, true},
		{"MaxBits words, the last one of which is used", slices.Concat(freeWords(last-1), usedWords(1)), 0, last, false},
		{"a word of MaxBits used words", usedWords(last), last - 1, 1, false},
	} {
		t.Run(c.name, func(t *testing.T) {
			other := turnedOver(c.bitmap)
			if !c.ok {
				refusedBits(t, impl.BitsTake, c.bitmap, c.start, c.many)
				refusedBits(t, impl.BitsGive, other, c.start, c.many)
				return
			}
			changedBits(t, impl.BitsTake, c.bitmap, c.start, c.many, withWords(c.bitmap, c.start, c.many, true))
			changedBits(t, impl.BitsGive, other, c.start, c.many, withWords(other, c.start, c.many, false))
		})
	}
}

// partsOf returns how many of a number of words, which is at least 2, are taken first: all possible numbers in short bitmaps, some in long ones.
func partsOf(bitmap []bool, many int) []int {
	if len(bitmap) > 8 {
		return []int{1, many / 2, many - 1}
	}
	var parts []int
	for part := 1; part < many; part++ {
		parts = append(parts, part)
	}
	return parts
}

// P116: taking words at once is taking the first ones and then the others; it is refused exactly if one of the two is.
func TestWordsAreTakenInParts(t *testing.T) {
	eachBitmap(func(bitmap []bool) {
		eachRange(bitmap, func(start, many int) {
			if many < 2 {
				return
			}
			whole, ok := impl.BitsTake(bitmap, start, many)
			for _, part := range partsOf(bitmap, many) {
				first, okFirst := impl.BitsTake(bitmap, start, part)
				second, okSecond := impl.BitsTake(first, start+part, many-part)
				if ok != (okFirst && okSecond) || ok && !slices.Equal(whole, second) {
					t.Fatalf("%d words from %d on of %v: at once %v, %v; %d of them first %v, %v", many, start, bitmap, whole, ok, part, second, okFirst && okSecond)
				}
			}
		})
	})
}

// P116: words that reach behind the end cannot be taken in parts either.
func TestWordsBehindTheEndAreNotTakenInParts(t *testing.T) {
	for _, length := range []int{1, 2, 7, impl.MaxBits - 1} {
		bitmap := freeWords(length)
		for start := range length {
			many := length - start + 1
			refusedBits(t, impl.BitsTake, bitmap, start, many)
			changedBits(t, impl.BitsTake, bitmap, start, many-1, withWords(bitmap, start, many-1, true))
			refusedBits(t, impl.BitsTake, withWords(bitmap, start, many-1, true), length, 1)
		}
	}
}

// P35, P36, P37: for numbers of words that cannot be asked for nothing is found, taken or given, whatever the start is.
func TestOtherNumbersOfWords(t *testing.T) {
	eachBitmap(func(bitmap []bool) {
		starts := append([]int{0, 1, len(bitmap) - 1, len(bitmap)}, oddStarts...)
		for _, many := range oddMany {
			if got := impl.BitsFind(bitmap, many); got != -1 {
				t.Fatalf("BitsFind(%v, %d) = %d", bitmap, many, got)
			}
			for _, start := range starts {
				nothingOfBits(t, impl.BitsTake, bitmap, start, many)
				nothingOfBits(t, impl.BitsGive, bitmap, start, many)
			}
		}
	})
}

// P36, P37: words that do not exist are neither taken nor given, and the bitmap stays what it is.
func TestWordsThatDoNotExist(t *testing.T) {
	eachBitmap(func(bitmap []bool) {
		for many := 1; many <= impl.MaxBits; many++ {
			for _, start := range append([]int{len(bitmap), len(bitmap) + 1, len(bitmap) - many + 1, -many}, oddStarts...) {
				refusedBits(t, impl.BitsTake, bitmap, start, many)
				refusedBits(t, impl.BitsGive, bitmap, start, many)
			}
		}
	})
}

// longerBitmaps are bitmaps of more than MaxBits words.
func longerBitmaps() [][]bool {
	var all [][]bool
	for _, length := range []int{impl.MaxBits + 1, impl.MaxBits + 2, 2*impl.MaxBits - 1, 2 * impl.MaxBits, 2*impl.MaxBits + 1, 256, 1000} {
		all = append(all, longBitmaps(length)...)
	}
	return all
}

// P35, P36, P37, P38: bitmaps of more than MaxBits words have the results that the chapter gives for them, whatever the other arguments are.
func TestLongerBitmaps(t *testing.T) {
	manys := append([]int{1, 2, 32, impl.MaxBits - 1, impl.MaxBits}, oddMany...)
	for _, bitmap := range longerBitmaps() {
		if got := impl.BitsLongest(bitmap); got != -1 {
			t.Fatalf("BitsLongest of %d words = %d", len(bitmap), got)
		}
		starts := append([]int{0, 1, 63, len(bitmap) - 2, len(bitmap) - 1, len(bitmap)}, oddStarts...)
		for _, many := range manys {
			if got := impl.BitsFind(bitmap, many); got != -1 {
				t.Fatalf("BitsFind of %d words in %d words = %d", many, len(bitmap), got)
			}
			for _, start := range starts {
				nothingOfBits(t, impl.BitsTake, bitmap, start, many)
				nothingOfBits(t, impl.BitsGive, bitmap, start, many)
			}
		}
	}
}

// resultsOfBits calls every function of the chapter, with requests that succeed and with refused ones, and returns the bitmaps of all results.
func resultsOfBits(bitmap []bool) [][]bool {
	var results [][]bool
	keep := func(bits []bool, ok bool) { results = append(results, bits) }
	impl.BitsLongest(bitmap)
	for _, many := range []int{-1, 0, 1, 2, len(bitmap) - 1, len(bitmap), len(bitmap) + 1, impl.MaxBits + 1} {
		impl.BitsFind(bitmap, many)
		for _, start := range []int{-1, 0, 1, len(bitmap) / 2, len(bitmap) - 1, len(bitmap)} {
			keep(impl.BitsTake(bitmap, start, many))
			keep(impl.BitsGive(bitmap, start, many))
		}
	}
	return results
}

// overwrite turns every word of a bitmap over: with only two values a fixed one might be there already.
func overwrite(bitmap []bool) {
	copy(bitmap, turnedOver(bitmap))
}

// TestBitmapsShareNothing: no argument changes, not even when all results and the spare capacity behind them are overwritten, and neither does another result.
func TestBitmapsShareNothing(t *testing.T) {
	check := func(bitmap []bool) {
		whole := slices.Concat(bitmap, []bool{true, false, true, true, false, false})
		before := slices.Clone(whole)
		results := resultsOfBits(whole[:len(bitmap)])
		if !slices.Equal(whole, before) {
			t.Fatalf("the bitmap %v became %v", before, whole)
		}
		wanted := resultsOfBits(bitmap)
		for i, result := range results {
			if !slices.Equal(result, wanted[i]) {
				t.Fatalf("result %d of %v is %v, not %v", i, bitmap, result, wanted[i])
			}
			overwrite(result[:cap(result)])
			if !slices.Equal(whole, before) {
				t.Fatalf("the bitmap %v shares memory with result %d", before, i)
			}
		}
	}
	eachBitmap(check)
	for _, bitmap := range longerBitmaps() {
		check(bitmap)
	}
}

// TestBitmapsReturnForAllNumbers: for every number a start or a number of words can be, the functions return, and what they return fits the definition.
func TestBitmapsReturnForAllNumbers(t *testing.T) {
	numbers := manyNumbers()
	bitmaps := [][]bool{nil, freeWords(1), usedWords(1), freeWords(impl.MaxBits), usedWords(impl.MaxBits), freeWords(impl.MaxBits + 1)}
	for _, bitmap := range bitmaps {
		valid := len(bitmap) <= impl.MaxBits
		for _, many := range numbers {
			known := valid && many >= 1 && many <= impl.MaxBits
			if got := impl.BitsFind(bitmap, many); !known && got != -1 {
				t.Fatalf("BitsFind(%v, %d) = %d", bitmap, many, got)
			}
			for _, start := range numbers {
				inside := known && start >= 0 && start < len(bitmap) && start+many <= len(bitmap)
				for used, change := range map[bool]bitsChange{false: impl.BitsTake, true: impl.BitsGive} {
					got, ok := change(bitmap, start, many)
					want := inside && allAre(bitmap, start, many, used)
					if ok != want || known && len(got) != len(bitmap) || !known && len(got) != 0 {
						t.Fatalf("%d words from %d on of %v, which are used: %v: %v, %v", many, start, bitmap, used, got, ok)
					}
				}
			}
		}
	}
}
