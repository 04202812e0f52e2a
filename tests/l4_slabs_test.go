package tests

import (
	"math"
	"slices"
	"testing"

	"loop.example/memorymanagers/impl"
)

// placeSizes are the numbers of words that the chapter gives for the classes.
var placeSizes = []int{1, 2, 3, 4, 6, 8, 12, 16}

// oddClasses are numbers that no class has.
var oddClasses = []int{-1, -2, -7, -8, -256, 8, 9, 15, 16, 64, 255, 256, 1 << 31, 1 << 32, 1<<32 + 7, math.MaxInt, math.MaxInt - 1, math.MinInt, math.MinInt + 1, math.MinInt + 7}

// oddUsed are numbers that tell no places of a slab, among them such whose last bits would do.
var oddUsed = []int{-1, -2, -128, -255, -256, -257, 256, 257, 383, 511, 512, 1 << 16, 1 << 31, 1 << 32, 1<<32 + 5, 1 << 62, math.MaxInt, math.MaxInt - 1, math.MaxInt - 255, math.MinInt, math.MinInt + 1, math.MinInt + 255}

// oddPlaces are numbers that no place has, among them such whose last bits would do.
var oddPlaces = []int{-1, -2, -7, -8, -64, -256, 8, 9, 15, 16, 31, 32, 63, 64, 65, 128, 256, 1 << 31, 1 << 32, 1<<32 + 1, math.MaxInt, math.MaxInt - 1, math.MinInt, math.MinInt + 1, math.MinInt + 7}

// oddWords are numbers of words for which no class has places.
var oddWords = []int{0, -1, -2, -16, -256, 17, 18, 20, 32, 255, 256, 1 << 31, 1 << 32, 1<<32 + 1, math.MaxInt, math.MaxInt - 1, math.MinInt, math.MinInt + 1, math.MinInt + 16}

// places tells for every place of a slab whether it is used.
type places [impl.SlabPlaces]bool

// usedOf returns the sum of 2^k over the used places.
func usedOf(p places) int {
	sum := 0
	for k, used := range p {
		if used {
			sum += wordsOf(k)
		}
	}
	return sum
}

// allPlaces returns all that a slab can be, by extending each with a free and with a used place.
func allPlaces() []places {
	all := []places{{}}
	for k := range impl.SlabPlaces {
		for _, p := range slices.Clone(all) {
			p[k] = true
			all = append(all, p)
		}
	}
	return all
}

// eachSlab calls check with every valid slab, and with its places.
func eachSlab(check func(s impl.Slab, p places)) {
	for class := range placeSizes {
		for _, p := range allPlaces() {
			check(impl.Slab{Class: class, Used: usedOf(p)}, p)
		}
	}
}

// freePlaces returns the free places, ascending.
func freePlaces(p places) []int {
	var free []int
	for k, used := range p {
		if !used {
			free = append(free, k)
		}
	}
	return free
}

func TestClassesOfTheChapter(t *testing.T) {
	if len(placeSizes) != impl.MaxClass+1 {
		t.Fatalf("MaxClass is %d", impl.MaxClass)
	}
	for class, want := range placeSizes {
		if got := impl.ClassSize(class); got != want {
			t.Errorf("ClassSize(%d) = %d, not %d", class, got, want)
		}
	}
}

// P29: a greater class has larger places.
func TestClassesGrow(t *testing.T) {
	for class := 0; class <= impl.MaxClass; class++ {
		for smaller := 0; smaller < class; smaller++ {
			if a, b := impl.ClassSize(smaller), impl.ClassSize(class); a < 1 || a >= b {
				t.Errorf("the places of class %d have %d words, those of class %d have %d", smaller, a, class, b)
			}
		}
	}
}

// P29: a number that no class has has no size.
func TestSizesOfOtherClasses(t *testing.T) {
	for _, class := range oddClasses {
		if got := impl.ClassSize(class); got != -1 {
			t.Errorf("ClassSize(%d) = %d", class, got)
		}
	}
}

// P30: the places of the class have room for the words, and those of the class before have not.
func TestClassesAreEnough(t *testing.T) {
	for size := 1; size <= 16; size++ {
		class := impl.ClassFor(size)
		if class < 0 || class > impl.MaxClass {
			t.Fatalf("ClassFor(%d) = %d", size, class)
		}
		if placeSizes[class] < size || impl.ClassSize(class) < size {
			t.Errorf("ClassFor(%d) = %d, whose places are too small", size, class)
		}
		if class > 0 && (placeSizes[class-1] >= size || impl.ClassSize(class-1) >= size) {
			t.Errorf("ClassFor(%d) = %d, and the places of the class before are enough", size, class)
		}
	}
}

// P30: the sizes of the classes, and the numbers next to them.
func TestClassesOfAllSizes(t *testing.T) {
	for _, c := range []struct{ size, want int }{
		{0, -1}, {1, 0}, {2, 1}, {3, 2}, {4, 3}, {5, 4}, {6, 4}, {7, 5}, {8, 5}, {9, 6}, {10, 6}, {11, 6}, {12, 6}, {13, 7}, {14, 7}, {15, 7}, {16, 7}, {17, -1},
	} {
		if got := impl.ClassFor(c.size); got != c.want {
			t.Errorf("ClassFor(%d) = %d, not %d", c.size, got, c.want)
		}
	}
	for class := range placeSizes {
		if got := impl.ClassFor(impl.ClassSize(class)); got != class {
			t.Errorf("ClassFor of the size of class %d is %d", class, got)
		}
	}
}

// P30, P34: for numbers of words that no place has there is neither a class nor a waste.
func TestClassesOfOtherSizes(t *testing.T) {
	check := func(size int) {
		if class, waste := impl.ClassFor(size), impl.SlabWaste(size); class != -1 || waste != -1 {
			t.Errorf("ClassFor(%d) = %d, and SlabWaste is %d", size, class, waste)
		}
	}
	for _, size := range oddWords {
		check(size)
	}
	for distance := range 1000 {
		check(-distance)
		check(17 + distance)
	}
}

// P34: less than half of a place is wasted, and nothing for a size that is one of a class.
func TestLittleIsWasted(t *testing.T) {
	for size := 1; size <= 16; size++ {
		waste := impl.SlabWaste(size)
		words := impl.ClassSize(impl.ClassFor(size))
		if waste != words-size || waste < 0 || 2*waste >= words {
			t.Errorf("SlabWaste(%d) = %d, in a place of %d words", size, waste, words)
		}
		if got := slices.Contains(placeSizes, size); got != (waste == 0) {
			t.Errorf("SlabWaste(%d) = %d", size, waste)
		}
	}
}

// P34: the sizes of the classes, and the numbers next to them.
func TestWasteOfAllSizes(t *testing.T) {
	for _, c := range []struct{ size, want int }{
		{0, -1}, {1, 0}, {2, 0}, {3, 0}, {4, 0}, {5, 1}, {6, 0}, {7, 1}, {8, 0}, {9, 3}, {10, 2}, {11, 1}, {12, 0}, {13, 3}, {14, 2}, {15, 1}, {16, 0}, {17, -1},
	} {
		if got := impl.SlabWaste(c.size); got != c.want {
			t.Errorf("SlabWaste(%d) = %d, not %d", c.size, got, c.want)
		}
	}
}

// P31: every slab of the definition is valid, and with a place more it is invalid.
func TestSlabsHavePlaces(t *testing.T) {
	eachSlab(func(s impl.Slab, p places) {
		if !impl.SlabValid(s) {
			t.Fatalf("SlabValid(%v) = false", s)
		}
		for place := impl.SlabPlaces; place < 62; place++ {
			if more := (impl.Slab{Class: s.Class, Used: s.Used + wordsOf(place)}); impl.SlabValid(more) {
				t.Fatalf("SlabValid(%v) = true", more)
			}
		}
	})
}

// P31: near the valid slabs exactly those of the definition are valid.
func TestSlabValidIsTheDefinition(t *testing.T) {
	for class := -20; class <= 20; class++ {
		for used := -600; used <= 600; used++ {
			want := class >= 0 && class <= 7 && used >= 0 && used <= 255
			if got := impl.SlabValid(impl.Slab{Class: class, Used: used}); got != want {
				t.Fatalf("SlabValid of class %d and %d = %v", class, used, got)
			}
		}
	}
}

// takenPlace returns what SlabTake must return for a valid slab, from its definition.
func takenPlace(s impl.Slab, p places) (impl.Slab, int, bool) {
	free := freePlaces(p)
	if len(free) == 0 {
		return s, -1, false
	}
	p[free[0]] = true
	return impl.Slab{Class: s.Class, Used: usedOf(p)}, free[0], true
}

// P32: the place was free, and none before it was; giving it back leads to the slab before.
func TestTakenPlacesAreUsed(t *testing.T) {
	eachSlab(func(s impl.Slab, p places) {
		taken, place, ok := impl.SlabTake(s)
		want, wantPlace, wantOK := takenPlace(s, p)
		if taken != want || place != wantPlace || ok != wantOK {
			t.Fatalf("SlabTake(%v) = %v, %d, %v, not %v, %d, %v", s, taken, place, ok, want, wantPlace, wantOK)
		}
		if !ok {
			return
		}
		if !impl.SlabValid(taken) || p[place] || slices.Contains(p[:place], false) {
			t.Fatalf("SlabTake(%v) = %v, %d", s, taken, place)
		}
		if back, ok := impl.SlabGive(taken, place); !ok || back != s {
			t.Fatalf("SlabGive(%v, %d) = %v, %v, not %v", taken, place, back, ok, s)
		}
	})
}

func TestSlabTakeOfOneSlab(t *testing.T) {
	for _, c := range []struct {
		name       string
		used, want int
		place      int
		ok         bool
	}{
		{"no place is used", 0, 1, 0, true},
		{"only the first place is used", 1, 3, 1, true},
		{"only the last place is used", 128, 129, 0, true},
		{"all but the first place are used", 254, 255, 0, true},
		{"all but a middle place are used", 239, 255, 4, true},
		{"all but the last place are used", 127, 255, 7, true},
		{"one place between used ones is free", 5, 7, 1, true},
		{"two places between used ones are free", 9, 11, 1, true},
		{"every second place is used, the first one too", 85, 87, 1, true},
		{"every second place is used, the last one too", 170, 171, 0, true},
		{"all places are used", 255, 255, -1, false},
	} {
		for class := range placeSizes {
			want := impl.Slab{Class: class, Used: c.want}
			if got, place, ok := impl.SlabTake(impl.Slab{Class: class, Used: c.used}); got != want || place != c.place || ok != c.ok {
				t.Errorf("%s: SlabTake = %v, %d, %v, not %v, %d, %v", c.name, got, place, ok, want, c.place, c.ok)
			}
		}
	}
}

// refusedPlace fails unless SlabGive returns the slab unchanged and false.
func refusedPlace(t *testing.T, s impl.Slab, place int) {
	t.Helper()
	if got, ok := impl.SlabGive(s, place); ok || got != s {
		t.Fatalf("SlabGive(%v, %d) = %v, %v", s, place, got, ok)
	}
}

// P33: the place is free then, and giving it again is refused; other places are unchanged.
func TestGivenPlacesAreFree(t *testing.T) {
	eachSlab(func(s impl.Slab, p places) {
		for place, used := range p {
			if !used {
				refusedPlace(t, s, place)
				continue
			}
			after := p
			after[place] = false
			want := impl.Slab{Class: s.Class, Used: usedOf(after)}
			given, ok := impl.SlabGive(s, place)
			if !ok || given != want || !impl.SlabValid(given) {
				t.Fatalf("SlabGive(%v, %d) = %v, %v, not %v", s, place, given, ok, want)
			}
			refusedPlace(t, given, place)
		}
	})
}

func TestSlabGiveOfOneSlab(t *testing.T) {
	for _, c := range []struct {
		name       string
		used, want int
		place      int
		ok         bool
	}{
		{"the only place, which is the first one", 1, 0, 0, true},
		{"the only place, which is the last one", 128, 0, 7, true},
		{"the first place of a full slab", 255, 254, 0, true},
		{"a middle place of a full slab", 255, 239, 4, true},
		{"the last place of a full slab", 255, 127, 7, true},
		{"a place between used ones", 7, 5, 1, true},
		{"a place between free ones", 84, 68, 4, true},
		{"a free place between used ones", 5, 5, 1, false},
		{"the only free place", 239, 239, 4, false},
		{"the first place of an empty slab", 0, 0, 0, false},
		{"the last place of an empty slab", 0, 0, 7, false},
		{"a place behind the last one of a full slab", 255, 255, 8, false},
		{"a place before the first one of a full slab", 255, 255, -1, false},
	} {
		for class := range placeSizes {
			want := impl.Slab{Class: class, Used: c.want}
			if got, ok := impl.SlabGive(impl.Slab{Class: class, Used: c.used}, c.place); got != want || ok != c.ok {
				t.Errorf("%s: SlabGive = %v, %v, not %v, %v", c.name, got, ok, want, c.ok)
			}
		}
	}
}

// P33: where there is no place nothing is given, and the slab stays what it is.
func TestSlabGiveOfOtherPlaces(t *testing.T) {
	eachSlab(func(s impl.Slab, p places) {
		for _, place := range oddPlaces {
			refusedPlace(t, s, place)
		}
	})
}

// P115: as often as a place is free a place can be taken, and not once more; then all are used.
func TestSlabsFillUp(t *testing.T) {
	eachSlab(func(s impl.Slab, p places) {
		full := impl.Slab{Class: s.Class, Used: 255}
		rest := s
		for _, free := range freePlaces(p) {
			taken, place, ok := impl.SlabTake(rest)
			if !ok || place != free {
				t.Fatalf("SlabTake(%v) = %v, %d, %v, not the place %d", rest, taken, place, ok, free)
			}
			rest = taken
		}
		if rest != full {
			t.Fatalf("%v filled up is %v", s, rest)
		}
		if got, place, ok := impl.SlabTake(rest); ok || place != -1 || got != full {
			t.Fatalf("SlabTake(%v) = %v, %d, %v", rest, got, place, ok)
		}
	})
}

// emptied gives the places of a full slab back in an order, and looks after each of them which place would be taken next.
func emptied(t *testing.T, s impl.Slab, order []int) impl.Slab {
	t.Helper()
	free := impl.SlabPlaces
	for _, place := range order {
		given, ok := impl.SlabGive(s, place)
		if !ok || given.Class != s.Class || given.Used != s.Used-wordsOf(place) {
			t.Fatalf("SlabGive(%v, %d) = %v, %v", s, place, given, ok)
		}
		// The place that is taken next is the first of all those that were given.
		free = min(free, place)
		if _, next, ok := impl.SlabTake(given); !ok || next != free {
			t.Fatalf("SlabTake(%v) takes %d, %v, not %d", given, next, ok, free)
		}
		s = given
	}
	return s
}

// P32, P33, P115: slabs of all classes are filled place by place, and emptied again in several orders.
func TestSlabsAreFilledAndEmptied(t *testing.T) {
	for class := range placeSizes {
		for _, order := range [][]int{{0, 1, 2, 3, 4, 5, 6, 7}, {7, 6, 5, 4, 3, 2, 1, 0}, {3, 0, 7, 5, 1, 6, 2, 4}} {
			s := impl.Slab{Class: class}
			for want := range impl.SlabPlaces {
				taken, place, ok := impl.SlabTake(s)
				if !ok || place != want || taken != (impl.Slab{Class: class, Used: wordsOf(want+1) - 1}) {
					t.Fatalf("SlabTake(%v) = %v, %d, %v", s, taken, place, ok)
				}
				s = taken
			}
			if s = emptied(t, s, order); s != (impl.Slab{Class: class}) {
				t.Fatalf("emptied in the order %v the slab is %v", order, s)
			}
		}
	}
}

// invalidSlabs are slabs whose class, or places, or both cannot be.
func invalidSlabs() []impl.Slab {
	var all []impl.Slab
	for _, class := range oddClasses {
		for used := range 256 {
			all = append(all, impl.Slab{Class: class, Used: used})
		}
		for _, used := range oddUsed {
			all = append(all, impl.Slab{Class: class, Used: used})
		}
	}
	for class := range placeSizes {
		for _, used := range oddUsed {
			all = append(all, impl.Slab{Class: class, Used: used})
		}
	}
	return all
}

// P31, P32, P33: invalid slabs have the results that the chapter gives for them, whatever the place is.
func TestInvalidSlabs(t *testing.T) {
	for _, s := range invalidSlabs() {
		if impl.SlabValid(s) {
			t.Errorf("SlabValid(%v) = true", s)
		}
		if got, place, ok := impl.SlabTake(s); ok || place != -1 || got != (impl.Slab{}) {
			t.Errorf("SlabTake(%v) = %v, %d, %v", s, got, place, ok)
		}
		for _, place := range append([]int{0, 1, 2, 3, 4, 5, 6, 7}, oddPlaces...) {
			if got, ok := impl.SlabGive(s, place); ok || got != (impl.Slab{}) {
				t.Errorf("SlabGive(%v, %d) = %v, %v", s, place, got, ok)
			}
		}
	}
}

// manyNumbers returns small numbers, and those near all powers of two, of both signs.
func manyNumbers() []int {
	var all []int
	for n := -300; n <= 300; n++ {
		all = append(all, n)
	}
	for power := 8; power <= 64; power++ {
		for by := -2; by <= 2; by++ {
			all = append(all, 1<<power+by, -(1<<power)+by)
		}
	}
	return all
}

// TestSlabsReturnForAllNumbers: for every number a class, a size or a place can be, the functions return, and what they return fits together.
func TestSlabsReturnForAllNumbers(t *testing.T) {
	numbers := manyNumbers()
	for _, n := range numbers {
		if known, got := n >= 0 && n <= 7, impl.ClassSize(n); known != (got != -1) {
			t.Errorf("ClassSize(%d) = %d", n, got)
		}
		known := n >= 1 && n <= 16
		if class, waste := impl.ClassFor(n), impl.SlabWaste(n); known != (class != -1) || known != (waste != -1) {
			t.Errorf("ClassFor(%d) = %d, and SlabWaste is %d", n, class, waste)
		}
		for _, m := range numbers {
			s := impl.Slab{Class: n, Used: m}
			valid := impl.SlabValid(s)
			taken, place, ok := impl.SlabTake(s)
			if ok != (valid && m != 255) || ok != (place != -1) || !valid && taken != (impl.Slab{}) {
				t.Fatalf("SlabTake(%v) = %v, %d, %v", s, taken, place, ok)
			}
			for _, s := range []impl.Slab{s, {Used: 255}} {
				if given, ok := impl.SlabGive(s, m); ok && (m < 0 || m > 7 || !impl.SlabValid(s) || !impl.SlabValid(given)) {
					t.Fatalf("SlabGive(%v, %d) = %v, %v", s, m, given, ok)
				}
			}
		}
	}
}
