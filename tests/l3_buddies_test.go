package tests

import (
	"fmt"
	"math"
	"slices"
	"testing"

	"loop.example/memorymanagers/impl"
)

// oddPowers are powers that no memory has.
var oddPowers = []int{-1, -2, -impl.MaxPower, impl.MaxPower + 1, 16, 31, 32, 63, 64, 65, 256, 1 << 32, math.MaxInt, math.MaxInt - 1, math.MinInt, math.MinInt + 1}

// wordsOf returns 2^order by doubling, without a shift.
func wordsOf(order int) int {
	words := 1
	for ; order > 0; order-- {
		words *= 2
	}
	return words
}

// usedBuddy and freeBuddy keep the tables below short.
func usedBuddy(start, order int) impl.Buddy {
	return impl.Buddy{Start: start, Order: order, Used: true}
}

func freeBuddy(start, order int) impl.Buddy {
	return impl.Buddy{Start: start, Order: order}
}

// buddyDivisions returns all buddies that divide the words of one order from start on, built from the definition and not by the program.
func buddyDivisions(start, order int) [][]impl.Buddy {
	all := [][]impl.Buddy{{freeBuddy(start, order)}, {usedBuddy(start, order)}}
	if order == 0 {
		return all
	}
	seconds := buddyDivisions(start+wordsOf(order-1), order-1)
	for _, first := range buddyDivisions(start, order-1) {
		for _, second := range seconds {
			whole := len(first) == 1 && len(second) == 1
			if !whole || first[0].Used || second[0].Used {
				all = append(all, slices.Concat(first, second))
			}
		}
	}
	return all
}

// mixedDivision divides the words of one order into buddies of many orders; turn chooses what becomes of each part.
func mixedDivision(start, order, turn int) []impl.Buddy {
	choice := (start/wordsOf(order)*5 + order*3 + turn*7) % 11
	switch {
	case order == 0 || choice < 2:
		return []impl.Buddy{{Start: start, Order: order, Used: choice%2 == 0}}
	case choice == 2:
		return []impl.Buddy{freeBuddy(start, order)}
	}
	first := mixedDivision(start, order-1, turn)
	second := mixedDivision(start+wordsOf(order-1), order-1, turn)
	return joinedHalves(slices.Concat(first, second))
}

// stairs has one used word at the beginning or at the end, and free buddies of all orders beside it: the most halvings and joinings.
func stairs(power int, atEnd bool) []impl.Buddy {
	list := []impl.Buddy{usedBuddy(0, 0)}
	if atEnd {
		list[0].Start = wordsOf(power) - 1
	}
	for order := 0; order < power; order++ {
		if atEnd {
			list = slices.Insert(list, 0, freeBuddy(list[0].Start-wordsOf(order), order))
		} else {
			list = append(list, freeBuddy(wordsOf(order), order))
		}
	}
	return list
}

// evenBuddies divides a memory into buddies of one order, of which the first one of every step is free; none is if step is 0.
func evenBuddies(power, order, step int) []impl.Buddy {
	var list []impl.Buddy
	for i := 0; i < wordsOf(power-order); i++ {
		list = append(list, impl.Buddy{Start: i * wordsOf(order), Order: order, Used: step == 0 || i%step != 0})
	}
	return list
}

// largeBuddies returns some divisions of a memory with 2^power words, power at least 1.
func largeBuddies(power int) [][]impl.Buddy {
	all := [][]impl.Buddy{
		{freeBuddy(0, power)},
		{usedBuddy(0, power)},
		stairs(power, false),
		stairs(power, true),
		evenBuddies(power, 0, 0),
		evenBuddies(power, 0, 2),
		evenBuddies(power, 0, 3),
		evenBuddies(power, power-1, 0),
		evenBuddies(power, power-1, 2),
		evenBuddies(power, power/2, 3),
	}
	for turn := 0; turn < 22; turn++ {
		all = append(all, mixedDivision(0, power, turn))
	}
	return all
}

// eachBuddies calls check with all divisions of small memories, and with some of the larger ones.
func eachBuddies(check func(list []impl.Buddy, power int)) {
	for power := 0; power <= 3; power++ {
		for _, list := range buddyDivisions(0, power) {
			check(list, power)
		}
	}
	for power := 4; power <= impl.MaxPower; power++ {
		for _, list := range largeBuddies(power) {
			check(list, power)
		}
	}
}

// freeInBuddies counts the free words of buddies without the program.
func freeInBuddies(list []impl.Buddy) int {
	words := 0
	for _, b := range list {
		if !b.Used {
			words += wordsOf(b.Order)
		}
	}
	return words
}

// joinedHalves returns buddies in which all free halves are joined, by looking for two of them until there are none.
func joinedHalves(list []impl.Buddy) []impl.Buddy {
	joined := slices.Clone(list)
	for i := 0; i+1 < len(joined); i++ {
		a, b := joined[i], joined[i+1]
		if !a.Used && !b.Used && a.Order == b.Order && a.Start%wordsOf(a.Order+1) == 0 {
			joined[i].Order++
			joined = slices.Delete(joined, i+1, i+2)
			i = -1
		}
	}
	return joined
}

// orderOf returns the order for a number of words without the program.
func orderOf(size int) int {
	order := 0
	for wordsOf(order) < size {
		order++
	}
	return order
}

// takenBuddies returns what BuddyTake must return for valid buddies and a number of words in 1..MaxTotal, from its definition.
func takenBuddies(list []impl.Buddy, size int) ([]impl.Buddy, int, bool) {
	order, best := orderOf(size), -1
	for i, b := range list {
		if !b.Used && b.Order >= order && (best < 0 || b.Order < list[best].Order) {
			best = i
		}
	}
	taken := slices.Clone(list)
	if best < 0 {
		return taken, -1, false
	}
	for taken[best].Order > order {
		taken[best].Order--
		b := taken[best]
		taken = slices.Insert(taken, best+1, freeBuddy(b.Start+wordsOf(b.Order), b.Order))
	}
	taken[best].Used = true
	return taken, taken[best].Start, true
}

// givenBuddies returns the buddies that BuddyGive must return for the used buddies with some numbers, one after the other.
func givenBuddies(list []impl.Buddy, numbers ...int) []impl.Buddy {
	given := slices.Clone(list)
	for _, number := range numbers {
		given[number].Used = false
	}
	return joinedHalves(given)
}

// sizesFor returns the numbers of words that are asked for in a memory with 2^power words.
func sizesFor(power int) []int {
	var sizes []int
	for order := 0; order <= impl.MaxPower; order++ {
		for size := wordsOf(order) - 1; size <= wordsOf(order)+1; size++ {
			if size >= 1 && size <= impl.MaxTotal {
				sizes = append(sizes, size)
			}
		}
	}
	if power < 4 {
		for size := 1; size <= 10; size++ {
			sizes = append(sizes, size)
		}
	}
	slices.Sort(sizes)
	return slices.Compact(sizes)
}

// P24: the power has room for the words, and the half of it has not; a power of two needs no more than itself.
func TestPowersAreEnough(t *testing.T) {
	for size := 1; size <= impl.MaxTotal; size++ {
		order := impl.PowerFor(size)
		if order < 0 || order > impl.MaxPower || wordsOf(order) < size || order > 0 && wordsOf(order-1) >= size {
			t.Errorf("PowerFor(%d) = %d", size, order)
		}
	}
	for order := 0; order <= impl.MaxPower; order++ {
		if got := impl.PowerFor(wordsOf(order)); got != order {
			t.Errorf("PowerFor(%d) = %d, not %d", wordsOf(order), got, order)
		}
	}
}

func TestPowersNextToPowersOfTwo(t *testing.T) {
	for _, c := range []struct{ size, want int }{
		{1, 0}, {2, 1}, {3, 2}, {4, 2}, {5, 3}, {7, 3}, {8, 3}, {9, 4}, {15, 4}, {16, 4}, {17, 5}, {31, 5}, {32, 5}, {33, 6},
		{63, 6}, {64, 6}, {65, 7}, {127, 7}, {128, 7}, {129, 8}, {255, 8}, {256, 8}, {257, -1},
	} {
		if got := impl.PowerFor(c.size); got != c.want {
			t.Errorf("PowerFor(%d) = %d, not %d", c.size, got, c.want)
		}
	}
}

// P24: for numbers of words that cannot be asked for there is no power.
func TestPowersOfOtherSizes(t *testing.T) {
	for _, size := range oddSizes {
		if got := impl.PowerFor(size); got != -1 {
			t.Errorf("PowerFor(%d) = %d", size, got)
		}
	}
}

// P114: the size of the buddy for a number of words is less than twice this number.
func TestBuddiesWasteLessThanHalf(t *testing.T) {
	whole := []impl.Buddy{freeBuddy(0, impl.MaxPower)}
	for size := 1; size <= impl.MaxTotal; size++ {
		if order := impl.PowerFor(size); order < 0 || wordsOf(order) >= 2*size {
			t.Errorf("PowerFor(%d) = %d", size, order)
		}
		list, start, ok := impl.BuddyTake(whole, impl.MaxPower, size)
		if !ok || start != 0 || len(list) == 0 || !list[0].Used || wordsOf(list[0].Order) < size || wordsOf(list[0].Order) >= 2*size {
			t.Errorf("BuddyTake of %d words = %v, %d, %v", size, list, start, ok)
		}
	}
}

// P25: valid buddies are not valid for another power, nor without their first or last one, nor with a further one.
func TestValidBuddiesDivideTheMemory(t *testing.T) {
	eachBuddies(func(list []impl.Buddy, power int) {
		for other := -1; other <= impl.MaxPower+1; other++ {
			if got := impl.BuddiesValid(list, other); got != (other == power) {
				t.Fatalf("BuddiesValid(%v, %d) = %v", list, other, got)
			}
		}
		if impl.BuddiesValid(list[:len(list)-1], power) || impl.BuddiesValid(list[1:], power) {
			t.Fatalf("%v divides 2^%d words without its first or last one", list, power)
		}
		for order := 0; order <= power; order++ {
			for _, used := range []bool{false, true} {
				longer := append(slices.Clone(list), impl.Buddy{Start: wordsOf(power), Order: order, Used: used})
				if impl.BuddiesValid(longer, power) {
					t.Fatalf("BuddiesValid(%v, %d) = true", longer, power)
				}
			}
		}
	})
}

// buddyLists tells which buddies divide memories of at most 8 words, by what they are printed as.
func buddyLists() map[string]bool {
	good := map[string]bool{}
	for power := 0; power <= 3; power++ {
		for _, list := range buddyDivisions(0, power) {
			good[fmt.Sprint(power, list)] = true
		}
	}
	return good
}

// changedBuddies returns what one buddy becomes by changing one part of it.
func changedBuddies(b impl.Buddy) []impl.Buddy {
	changed := []impl.Buddy{{Start: b.Start, Order: b.Order, Used: !b.Used}}
	for _, by := range []int{-8, -4, -3, -2, -1, 1, 2, 3, 4, 8, math.MaxInt, math.MinInt} {
		changed = append(changed, impl.Buddy{Start: b.Start + by, Order: b.Order, Used: b.Used})
		changed = append(changed, impl.Buddy{Start: b.Start, Order: b.Order + by, Used: b.Used})
	}
	return changed
}

// P25: with one part changed, or two buddies exchanged, the program agrees with the definition.
func TestBuddiesValidOfChangedBuddies(t *testing.T) {
	good := buddyLists()
	check := func(list []impl.Buddy, power int) {
		if got, want := impl.BuddiesValid(list, power), good[fmt.Sprint(power, list)]; got != want {
			t.Fatalf("BuddiesValid(%v, %d) = %v", list, power, got)
		}
	}
	for power := 0; power <= 3; power++ {
		for _, list := range buddyDivisions(0, power) {
			for i, b := range list {
				for _, changed := range changedBuddies(b) {
					other := slices.Clone(list)
					other[i] = changed
					check(other, power)
				}
				other := slices.Clone(list)
				other[0], other[i] = other[i], other[0]
				check(other, power)
			}
		}
	}
}

// eachShortBuddies calls check with list and with all lists of at most 3 small buddies that go on from it.
func eachShortBuddies(list []impl.Buddy, check func(list []impl.Buddy)) {
	check(list)
	if len(list) == 3 {
		return
	}
	for _, start := range []int{-1, 0, 1, 2, 3, 4, 6} {
		for order := -1; order <= 3; order++ {
			eachShortBuddies(append(slices.Clone(list), freeBuddy(start, order)), check)
			eachShortBuddies(append(slices.Clone(list), usedBuddy(start, order)), check)
		}
	}
}

// P25: of all short lists of small buddies exactly those of the definition are valid.
func TestBuddiesValidIsTheDefinition(t *testing.T) {
	want := 0
	for power := 0; power <= 3; power++ {
		for _, list := range buddyDivisions(0, power) {
			if len(list) <= 3 {
				want++
			}
		}
	}
	good, got := buddyLists(), 0
	eachShortBuddies(nil, func(list []impl.Buddy) {
		for power := -1; power <= 3; power++ {
			if impl.BuddiesValid(list, power) {
				got++
				if !good[fmt.Sprint(power, list)] {
					t.Fatalf("BuddiesValid(%v, %d) = true", list, power)
				}
			}
		}
	})
	if got != want {
		t.Fatalf("%d short lists are valid, not %d", got, want)
	}
}

func TestFreeNeighboursOfBuddies(t *testing.T) {
	for _, c := range []struct {
		name  string
		list  []impl.Buddy
		power int
		want  bool
	}{
		{"the halves of the memory", []impl.Buddy{freeBuddy(0, 2), freeBuddy(4, 2)}, 3, false},
		{"two free words", []impl.Buddy{freeBuddy(0, 0), freeBuddy(1, 0)}, 1, false},
		{"the halves of a half", []impl.Buddy{usedBuddy(0, 2), freeBuddy(4, 1), freeBuddy(6, 1)}, 3, false},
		{"neighbours that are not the halves of the same order", []impl.Buddy{usedBuddy(0, 1), freeBuddy(2, 1), freeBuddy(4, 1), usedBuddy(6, 1)}, 3, true},
		{"halves of different orders", []impl.Buddy{usedBuddy(0, 0), freeBuddy(1, 0), freeBuddy(2, 1), freeBuddy(4, 2)}, 3, true},
		{"halves of which one is used", []impl.Buddy{freeBuddy(0, 2), usedBuddy(4, 2)}, 3, true},
		{"halves that are both used", []impl.Buddy{usedBuddy(0, 2), usedBuddy(4, 2)}, 3, true},
		{"a buddy that begins with no multiple of its size", []impl.Buddy{usedBuddy(0, 1), usedBuddy(2, 2), usedBuddy(6, 1)}, 3, false},
		{"a free one that begins with no multiple of its size", []impl.Buddy{usedBuddy(0, 0), freeBuddy(1, 1), usedBuddy(3, 0)}, 2, false},
	} {
		if got := impl.BuddiesValid(c.list, c.power); got != c.want {
			t.Errorf("%s: BuddiesValid(%v, %d) = %v", c.name, c.list, c.power, got)
		}
	}
}

// checkTake compares BuddyTake with its definition, and returns what it returns.
func checkTake(t *testing.T, list []impl.Buddy, power int, size int) ([]impl.Buddy, int, bool) {
	t.Helper()
	taken, start, ok := impl.BuddyTake(list, power, size)
	want, wantStart, wantOK := takenBuddies(list, size)
	if !slices.Equal(taken, want) || start != wantStart || ok != wantOK {
		t.Fatalf("BuddyTake(%v, %d, %d) = %v, %d, %v, not %v, %d, %v", list, power, size, taken, start, ok, want, wantStart, wantOK)
	}
	return taken, start, ok
}

// P26: the buddy has the order for the words, as many words fewer are free, and giving it back leads to the buddies before.
func TestTakenBuddiesAreUsed(t *testing.T) {
	eachBuddies(func(list []impl.Buddy, power int) {
		for _, size := range sizesFor(power) {
			taken, start, ok := checkTake(t, list, power, size)
			if !ok {
				continue
			}
			order := orderOf(size)
			if !slices.Contains(taken, usedBuddy(start, order)) || slices.Contains(list, usedBuddy(start, order)) {
				t.Fatalf("BuddyTake(%v, %d, %d) = %v, %d", list, power, size, taken, start)
			}
			if !impl.BuddiesValid(taken, power) || impl.BuddyFree(taken, power) != freeInBuddies(list)-wordsOf(order) {
				t.Fatalf("%v with %d words taken is %v", list, size, taken)
			}
			if back, ok := impl.BuddyGive(taken, power, start); !ok || !slices.Equal(back, list) {
				t.Fatalf("BuddyGive(%v, %d, %d) = %v, %v, not %v", taken, power, start, back, ok, list)
			}
		}
	})
}

func TestBuddyTakeOfOneMemory(t *testing.T) {
	mixed := []impl.Buddy{freeBuddy(0, 2), usedBuddy(4, 0), freeBuddy(5, 0), freeBuddy(6, 1), usedBuddy(8, 1), freeBuddy(10, 1), freeBuddy(12, 2)}
	for _, c := range []struct {
		name  string
		list  []impl.Buddy
		size  int
		want  []impl.Buddy
		start int
	}{
		{"a word of the whole memory", []impl.Buddy{freeBuddy(0, 4)}, 1, stairs(4, false), 0},
		{"the first half of the memory", []impl.Buddy{freeBuddy(0, 4)}, 5, []impl.Buddy{usedBuddy(0, 3), freeBuddy(8, 3)}, 0},
		{"the whole memory", []impl.Buddy{freeBuddy(0, 4)}, 9, []impl.Buddy{usedBuddy(0, 4)}, 0},
		{"a word where one is free", mixed, 1, slices.Concat(mixed[:2], []impl.Buddy{usedBuddy(5, 0)}, mixed[3:]), 5},
		{"the first of two pairs", mixed, 2, slices.Concat(mixed[:3], []impl.Buddy{usedBuddy(6, 1)}, mixed[4:]), 6},
		{"the first of two fours", mixed, 3, slices.Concat([]impl.Buddy{usedBuddy(0, 2)}, mixed[1:]), 0},
		{"the last buddy", []impl.Buddy{usedBuddy(0, 3), freeBuddy(8, 3)}, 8, []impl.Buddy{usedBuddy(0, 3), usedBuddy(8, 3)}, 8},
		{"a part of the last buddy", []impl.Buddy{usedBuddy(0, 3), freeBuddy(8, 3)}, 2, []impl.Buddy{usedBuddy(0, 3), usedBuddy(8, 1), freeBuddy(10, 1), freeBuddy(12, 2)}, 8},
		{"a smaller buddy behind a larger one", []impl.Buddy{freeBuddy(0, 3), usedBuddy(8, 2), freeBuddy(12, 2)}, 1, []impl.Buddy{freeBuddy(0, 3), usedBuddy(8, 2), usedBuddy(12, 0), freeBuddy(13, 0), freeBuddy(14, 1)}, 12},
		{"a larger one where the smaller one is too small", []impl.Buddy{freeBuddy(0, 3), usedBuddy(8, 2), freeBuddy(12, 2)}, 5, []impl.Buddy{usedBuddy(0, 3), usedBuddy(8, 2), freeBuddy(12, 2)}, 0},
	} {
		if got, start, ok := impl.BuddyTake(c.list, 4, c.size); !ok || start != c.start || !slices.Equal(got, c.want) {
			t.Errorf("%s: BuddyTake(%v, 4, %d) = %v, %d, %v, not %v, %d", c.name, c.list, c.size, got, start, ok, c.want, c.start)
		}
	}
}

// TestBuddyTakeOfTheDocument: in a memory of 8 free words BuddyTake of 2 words leaves buddies of 2, 2 and 4 words.
func TestBuddyTakeOfTheDocument(t *testing.T) {
	list, start, ok := impl.BuddyTake([]impl.Buddy{freeBuddy(0, 3)}, 3, 2)
	if want := []impl.Buddy{usedBuddy(0, 1), freeBuddy(2, 1), freeBuddy(4, 2)}; !ok || start != 0 || !slices.Equal(list, want) {
		t.Errorf("BuddyTake = %v, %d, %v, not %v", list, start, ok, want)
	}
}

// refusedBuddyTake fails unless BuddyTake returns the buddies unchanged, -1 and false.
func refusedBuddyTake(t *testing.T, list []impl.Buddy, power int, size int) {
	t.Helper()
	if got, start, ok := impl.BuddyTake(list, power, size); ok || start != -1 || !slices.Equal(got, list) {
		t.Fatalf("BuddyTake(%v, %d, %d) = %v, %d, %v", list, power, size, got, start, ok)
	}
}

// refusedBuddyGive fails unless BuddyGive returns the buddies unchanged and false.
func refusedBuddyGive(t *testing.T, list []impl.Buddy, power int, start int) {
	t.Helper()
	if got, ok := impl.BuddyGive(list, power, start); ok || !slices.Equal(got, list) {
		t.Fatalf("BuddyGive(%v, %d, %d) = %v, %v", list, power, start, got, ok)
	}
}

// P26: numbers of words that cannot be asked for are refused, and the buddies stay what they are.
func TestBuddyTakeOfOtherSizes(t *testing.T) {
	eachBuddies(func(list []impl.Buddy, power int) {
		for _, size := range oddSizes {
			refusedBuddyTake(t, list, power, size)
		}
	})
}

// P26: nothing is taken where everything is used, where the free ones are too small, or where the memory is.
func TestBuddyTakeWithoutRoom(t *testing.T) {
	for power := 0; power <= impl.MaxPower; power++ {
		for order := 0; order <= power; order++ {
			for size := 1; size <= impl.MaxTotal; size++ {
				refusedBuddyTake(t, evenBuddies(power, order, 0), power, size)
			}
			if order == power {
				continue
			}
			for size := wordsOf(order) + 1; size <= impl.MaxTotal; size++ {
				refusedBuddyTake(t, evenBuddies(power, order, 2), power, size)
			}
		}
		for size := wordsOf(power) + 1; size <= impl.MaxTotal; size++ {
			refusedBuddyTake(t, []impl.Buddy{freeBuddy(0, power)}, power, size)
		}
	}
}

// P26: as many words are free together as are needed, but not in one buddy.
func TestBuddyTakeOfDividedWords(t *testing.T) {
	refusedBuddyTake(t, []impl.Buddy{usedBuddy(0, 1), freeBuddy(2, 1), freeBuddy(4, 1), usedBuddy(6, 1)}, 3, 3)
	refusedBuddyTake(t, stairs(impl.MaxPower, false), impl.MaxPower, impl.MaxTotal/2+1)
	refusedBuddyTake(t, stairs(impl.MaxPower, true), impl.MaxPower, impl.MaxTotal/2+1)
}

// P27: as many words more are free, the buddies stay valid, and giving it again is refused; if all are free then, there is one buddy.
func TestGivenBuddiesAreFree(t *testing.T) {
	eachBuddies(func(list []impl.Buddy, power int) {
		for number, b := range list {
			if !b.Used {
				refusedBuddyGive(t, list, power, b.Start)
				continue
			}
			want := givenBuddies(list, number)
			given, ok := impl.BuddyGive(list, power, b.Start)
			if !ok || !slices.Equal(given, want) {
				t.Fatalf("BuddyGive(%v, %d, %d) = %v, %v, not %v", list, power, b.Start, given, ok, want)
			}
			free := freeInBuddies(list) + wordsOf(b.Order)
			if !impl.BuddiesValid(given, power) || impl.BuddyFree(given, power) != free {
				t.Fatalf("%v with the buddy at %d given back is %v", list, b.Start, given)
			}
			if free == wordsOf(power) && !slices.Equal(given, []impl.Buddy{freeBuddy(0, power)}) {
				t.Fatalf("all words are free in %v", given)
			}
			refusedBuddyGive(t, given, power, b.Start)
		}
	})
}

func TestBuddyGiveOfOneMemory(t *testing.T) {
	for _, c := range []struct {
		name  string
		list  []impl.Buddy
		start int
		want  []impl.Buddy
	}{
		{"joining with the half behind", []impl.Buddy{usedBuddy(0, 1), freeBuddy(2, 1), usedBuddy(4, 2)}, 0, []impl.Buddy{freeBuddy(0, 2), usedBuddy(4, 2)}},
		{"joining with the half before", []impl.Buddy{freeBuddy(0, 1), usedBuddy(2, 1), usedBuddy(4, 2)}, 2, []impl.Buddy{freeBuddy(0, 2), usedBuddy(4, 2)}},
		{"joining with halves before and behind", []impl.Buddy{freeBuddy(0, 1), usedBuddy(2, 0), freeBuddy(3, 0), freeBuddy(4, 2)}, 2, []impl.Buddy{freeBuddy(0, 3)}},
		{"joining up from the first word", stairs(3, false), 0, []impl.Buddy{freeBuddy(0, 3)}},
		{"joining up from the last word", stairs(3, true), 7, []impl.Buddy{freeBuddy(0, 3)}},
		{"the whole memory", []impl.Buddy{usedBuddy(0, 3)}, 0, []impl.Buddy{freeBuddy(0, 3)}},
		{"a free neighbour behind that is not the other half", []impl.Buddy{usedBuddy(0, 1), usedBuddy(2, 1), freeBuddy(4, 1), usedBuddy(6, 1)}, 2, []impl.Buddy{usedBuddy(0, 1), freeBuddy(2, 1), freeBuddy(4, 1), usedBuddy(6, 1)}},
		{"a free neighbour before that is not the other half", []impl.Buddy{usedBuddy(0, 1), freeBuddy(2, 1), usedBuddy(4, 1), usedBuddy(6, 1)}, 4, []impl.Buddy{usedBuddy(0, 1), freeBuddy(2, 1), freeBuddy(4, 1), usedBuddy(6, 1)}},
		{"the other half is used", []impl.Buddy{usedBuddy(0, 2), usedBuddy(4, 2)}, 4, []impl.Buddy{usedBuddy(0, 2), freeBuddy(4, 2)}},
		{"the other half behind begins with a smaller free buddy", []impl.Buddy{usedBuddy(0, 2), freeBuddy(4, 1), usedBuddy(6, 1)}, 0, []impl.Buddy{freeBuddy(0, 2), freeBuddy(4, 1), usedBuddy(6, 1)}},
		{"the other half before begins with a smaller free buddy", []impl.Buddy{freeBuddy(0, 1), usedBuddy(2, 1), usedBuddy(4, 2)}, 4, []impl.Buddy{freeBuddy(0, 1), usedBuddy(2, 1), freeBuddy(4, 2)}},
		{"the other half before ends with a smaller free buddy", []impl.Buddy{usedBuddy(0, 1), freeBuddy(2, 1), usedBuddy(4, 2)}, 4, []impl.Buddy{usedBuddy(0, 1), freeBuddy(2, 1), freeBuddy(4, 2)}},
		{"a free neighbour of a greater order", []impl.Buddy{usedBuddy(0, 1), usedBuddy(2, 1), freeBuddy(4, 2)}, 2, []impl.Buddy{usedBuddy(0, 1), freeBuddy(2, 1), freeBuddy(4, 2)}},
		{"joining once, and then a half of another order", []impl.Buddy{usedBuddy(0, 1), freeBuddy(2, 1), freeBuddy(4, 1), usedBuddy(6, 1)}, 0, []impl.Buddy{freeBuddy(0, 2), freeBuddy(4, 1), usedBuddy(6, 1)}},
	} {
		if got, ok := impl.BuddyGive(c.list, 3, c.start); !ok || !slices.Equal(got, c.want) {
			t.Errorf("%s: BuddyGive(%v, 3, %d) = %v, %v, not %v", c.name, c.list, c.start, got, ok, c.want)
		}
	}
}

// P27: where no used buddy begins nothing is given, neither inside of a used one nor outside of the memory.
func TestBuddyGiveOfOtherWords(t *testing.T) {
	eachBuddies(func(list []impl.Buddy, power int) {
		begins := map[int]bool{}
		for _, b := range list {
			begins[b.Start] = b.Used
		}
		for word := 0; word <= wordsOf(power)+1; word++ {
			if !begins[word] {
				refusedBuddyGive(t, list, power, word)
			}
		}
		for _, word := range oddNumbers {
			refusedBuddyGive(t, list, power, word)
		}
	})
}

// P26, P27: memories of all powers are filled with words from the first to the last, and emptied again.
func TestBuddiesAreFilledAndEmptied(t *testing.T) {
	for power := 0; power <= impl.MaxPower; power++ {
		list := []impl.Buddy{freeBuddy(0, power)}
		for word := 0; word < wordsOf(power); word++ {
			taken, start, ok := checkTake(t, list, power, 1)
			if !ok || start != word || impl.BuddyFree(taken, power) != wordsOf(power)-word-1 {
				t.Fatalf("word %d of 2^%d: BuddyTake = %v, %d, %v", word, power, taken, start, ok)
			}
			list = taken
		}
		if !slices.Equal(list, evenBuddies(power, 0, 0)) {
			t.Fatalf("a full memory of 2^%d words is %v", power, list)
		}
		for word := 0; word < wordsOf(power); word++ {
			given, ok := impl.BuddyGive(list, power, word)
			if !ok || impl.BuddyFree(given, power) != word+1 {
				t.Fatalf("word %d of 2^%d: BuddyGive = %v, %v", word, power, given, ok)
			}
			list = given
		}
		if !slices.Equal(list, []impl.Buddy{freeBuddy(0, power)}) {
			t.Fatalf("an empty memory of 2^%d words is %v", power, list)
		}
	}
}

// P28: the free words are those of the free buddies, at most all, and none if all are used.
func TestFreeBuddiesAreCounted(t *testing.T) {
	eachBuddies(func(list []impl.Buddy, power int) {
		got := impl.BuddyFree(list, power)
		if got != freeInBuddies(list) || got < 0 || got > wordsOf(power) {
			t.Fatalf("BuddyFree(%v, %d) = %d, not %d", list, power, got, freeInBuddies(list))
		}
		full := slices.Clone(list)
		for i := range full {
			full[i].Used = true
		}
		if got := impl.BuddyFree(full, power); got != 0 {
			t.Fatalf("BuddyFree(%v, %d) = %d", full, power, got)
		}
	})
	for power := 0; power <= impl.MaxPower; power++ {
		if got := impl.BuddyFree([]impl.Buddy{freeBuddy(0, power)}, power); got != wordsOf(power) {
			t.Errorf("of 2^%d free words BuddyFree counts %d", power, got)
		}
	}
}

// givenBoth gives two used buddies back, one after the other.
func givenBoth(t *testing.T, list []impl.Buddy, power int, first int, second int) []impl.Buddy {
	t.Helper()
	one, okOne := impl.BuddyGive(list, power, first)
	both, okBoth := impl.BuddyGive(one, power, second)
	if !okOne || !okBoth {
		t.Fatalf("the buddies at %d and %d of %v are refused", first, second, list)
	}
	return both
}

// P113: two used buddies, given back in both orders, lead to the same buddies.
func TestOrderOfGivingBuddiesDoesNotMatter(t *testing.T) {
	eachBuddies(func(list []impl.Buddy, power int) {
		for i := range list {
			for j := 0; j < i; j++ {
				// All pairs of long lists would take long: the first one and the nearest ones are enough beside the small memories.
				far := len(list) > 16 && j > 0 && j < i-4
				if !list[i].Used || !list[j].Used || far {
					continue
				}
				a, b := list[i].Start, list[j].Start
				one, other := givenBoth(t, list, power, a, b), givenBoth(t, list, power, b, a)
				if want := givenBuddies(list, i, j); !slices.Equal(one, other) || !slices.Equal(one, want) {
					t.Fatalf("the buddies at %d and %d of %v given back: %v, in the other order %v, not %v", a, b, list, one, other, want)
				}
			}
		}
	})
}

type buddiesCase struct {
	name  string
	list  []impl.Buddy
	power int
}

// invalidBuddies are the invalid arguments that the chapter names.
func invalidBuddies() []buddiesCase {
	const most, least = math.MaxInt, math.MinInt
	cases := []buddiesCase{
		{"no buddies", nil, 0},
		{"empty buddies", []impl.Buddy{}, 3},
		{"no buddies and no power", nil, -1},
		{"free halves", []impl.Buddy{freeBuddy(0, 2), freeBuddy(4, 2)}, 3},
		{"free halves at the end", []impl.Buddy{usedBuddy(0, 2), freeBuddy(4, 1), freeBuddy(6, 1)}, 3},
		{"a gap at the beginning", []impl.Buddy{usedBuddy(4, 2)}, 3},
		{"a gap in the middle", []impl.Buddy{usedBuddy(0, 1), usedBuddy(4, 2)}, 3},
		{"a gap at the end", []impl.Buddy{usedBuddy(0, 2)}, 3},
		{"an overlap", []impl.Buddy{usedBuddy(0, 3), usedBuddy(4, 2)}, 3},
		{"the same buddy again", []impl.Buddy{usedBuddy(0, 3), usedBuddy(0, 3)}, 3},
		{"another order of buddies", []impl.Buddy{usedBuddy(4, 2), usedBuddy(0, 2)}, 3},
		{"a buddy behind the memory", []impl.Buddy{usedBuddy(0, 3), usedBuddy(8, 3)}, 3},
		{"no multiple of its size", []impl.Buddy{usedBuddy(0, 1), usedBuddy(2, 2), usedBuddy(6, 1)}, 3},
		{"an order above the power", []impl.Buddy{usedBuddy(0, 4)}, 3},
		{"an order below 0", []impl.Buddy{usedBuddy(0, -1), usedBuddy(0, 3)}, 3},
		{"an order below 0 at the end", []impl.Buddy{usedBuddy(0, 3), usedBuddy(8, -1)}, 3},
		{"a first word below 0", []impl.Buddy{usedBuddy(-8, 3), usedBuddy(0, 3)}, 3},
		{"an order above the greatest one", []impl.Buddy{freeBuddy(0, impl.MaxPower+1)}, impl.MaxPower + 1},
		{"two of the greatest order", []impl.Buddy{usedBuddy(0, impl.MaxPower), usedBuddy(256, impl.MaxPower)}, impl.MaxPower + 1},
		{"a power below 0", []impl.Buddy{freeBuddy(0, -1)}, -1},
		{"a very large power", []impl.Buddy{freeBuddy(0, most)}, most},
		{"a very small power", []impl.Buddy{freeBuddy(0, least)}, least},
		{"a very large first word", []impl.Buddy{usedBuddy(most, 0)}, 0},
		{"a very small first word", []impl.Buddy{usedBuddy(least, 0)}, 0},
	}
	for _, odd := range oddPowers {
		cases = append(cases,
			buddiesCase{"another power", []impl.Buddy{usedBuddy(0, 3)}, odd},
			buddiesCase{"another power and order", []impl.Buddy{usedBuddy(0, odd)}, odd},
			buddiesCase{"another order", []impl.Buddy{usedBuddy(0, odd)}, 3},
			buddiesCase{"another order at the end", []impl.Buddy{usedBuddy(0, 2), usedBuddy(4, odd)}, 3},
			buddiesCase{"another order behind the memory", []impl.Buddy{usedBuddy(0, 3), usedBuddy(8, odd)}, 3})
	}
	return cases
}

// P25, P26, P27, P28: invalid buddies have the results that the chapter gives for them, whatever the other arguments are.
func TestInvalidBuddies(t *testing.T) {
	for _, c := range invalidBuddies() {
		if impl.BuddiesValid(c.list, c.power) {
			t.Errorf("%s: BuddiesValid(%v, %d) = true", c.name, c.list, c.power)
		}
		if got := impl.BuddyFree(c.list, c.power); got != -1 {
			t.Errorf("%s: BuddyFree(%v, %d) = %d", c.name, c.list, c.power, got)
		}
		for _, size := range append([]int{1, 2, 8, impl.MaxTotal}, oddSizes...) {
			if got, start, ok := impl.BuddyTake(c.list, c.power, size); ok || start != -1 || len(got) != 0 {
				t.Errorf("%s: BuddyTake(%v, %d, %d) = %v, %d, %v", c.name, c.list, c.power, size, got, start, ok)
			}
		}
		for _, word := range append([]int{0, 2, 4, 8}, oddNumbers...) {
			if got, ok := impl.BuddyGive(c.list, c.power, word); ok || len(got) != 0 {
				t.Errorf("%s: BuddyGive(%v, %d, %d) = %v, %v", c.name, c.list, c.power, word, got, ok)
			}
		}
	}
}

// resultsOfBuddies calls every function of the chapter, with requests that succeed and with refused ones, and returns the buddies of all results.
func resultsOfBuddies(list []impl.Buddy, power int) [][]impl.Buddy {
	var results [][]impl.Buddy
	impl.BuddiesValid(list, power)
	impl.BuddyFree(list, power)
	for _, size := range []int{-1, 0, 1, 2, 3, 8, impl.MaxTotal, impl.MaxTotal + 1} {
		taken, _, _ := impl.BuddyTake(list, power, size)
		results = append(results, taken)
	}
	words := []int{-1, impl.MaxTotal}
	for i, b := range list {
		if i < 8 || i == len(list)-1 {
			words = append(words, b.Start)
		}
	}
	for _, word := range words {
		given, _ := impl.BuddyGive(list, power, word)
		results = append(results, given)
	}
	return results
}

func fillBuddies(list []impl.Buddy) {
	for i := range list {
		list[i] = impl.Buddy{Start: -7, Order: -7, Used: true}
	}
}

// TestBuddiesShareNothing: no argument changes, not even when all results and the spare capacity behind them are overwritten, and neither does another result.
func TestBuddiesShareNothing(t *testing.T) {
	check := func(list []impl.Buddy, power int) {
		whole := make([]impl.Buddy, len(list)+12)
		fillBuddies(whole)
		copy(whole, list)
		before := slices.Clone(whole)
		results := resultsOfBuddies(whole[:len(list)], power)
		if !slices.Equal(whole, before) {
			t.Fatalf("the buddies %v became %v", before, whole)
		}
		wanted := resultsOfBuddies(list, power)
		for i, result := range results {
			if !slices.Equal(result, wanted[i]) {
				t.Fatalf("result %d of %v is %v, not %v", i, list, result, wanted[i])
			}
			fillBuddies(result[:cap(result)])
		}
		if !slices.Equal(whole, before) {
			t.Fatalf("the buddies %v share memory with a result", before)
		}
	}
	eachBuddies(check)
	for _, c := range invalidBuddies() {
		check(c.list, c.power)
	}
}
