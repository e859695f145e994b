package bits

import (
	"math"
	"slices"
	"testing"
)

const full = math.MaxUint64

// sets are the empty set and the full one, all of one number, or of all but one,
// all that begin or end at a number, pairs, and some without a rule that one sees.
func sets() []uint64 {
	l := []uint64{0, full, 0x5555555555555555, 0xaaaaaaaaaaaaaaaa, 0x00000000ffffffff, 0xffffffff00000000}
	mixed := uint64(0x9e3779b97f4a7c15)
	for k := 0; k < 64; k++ {
		one := uint64(1) << k
		l = append(l, one, ^one, one-1, ^(one - 1), one|1, one|1<<63)
		mixed = mixed*6364136223846793005 + 1442695040888963407
		l = append(l, mixed, mixed&(mixed>>7|mixed<<31), mixed&(mixed<<13)&(mixed>>29))
	}
	slices.Sort(l)
	return slices.Compact(l)
}

// numbers are all that a set may hold, those at and beyond the ends, and far ones to both sides.
func numbers() []int {
	l := []int{math.MinInt, math.MinInt + 1, math.MinInt + 63, math.MinInt32, -1 << 32, -1<<32 + 5}
	for k := -130; k <= 130; k++ {
		l = append(l, k)
	}
	return append(l, math.MaxInt32, 1<<32, 1<<32+5, math.MaxInt-63, math.MaxInt-1, math.MaxInt)
}

// members tells the numbers of a set by the chapter's word alone: k is in it, if the bit of 2^k is 1.
func members(b uint64) []int {
	var l []int
	power := uint64(1)
	for k := 0; k < 64; k++ {
		if b/power%2 == 1 {
			l = append(l, k)
		}
		power *= 2
	}
	return l
}

// such tells the set of those from 0 to 63 of which keep is true.
func such(keep func(k int) bool) uint64 {
	var b uint64
	power := uint64(1)
	for k := 0; k < 64; k++ {
		if keep(k) {
			b += power
		}
		power *= 2
	}
	return b
}

// P2.1: Count, Least, Greatest and List of all the sets.
func TestOfSets(t *testing.T) {
	for _, b := range sets() {
		all := members(b)
		least, greatest := -1, -1
		if len(all) > 0 {
			least, greatest = all[0], all[len(all)-1]
		}
		if n := Count(b); n != len(all) {
			t.Errorf("Count(%#x): %d; want %d", b, n, len(all))
		}
		if n := Least(b); n != least {
			t.Errorf("Least(%#x): %d; want %d", b, n, least)
		}
		if n := Greatest(b); n != greatest {
			t.Errorf("Greatest(%#x): %d; want %d", b, n, greatest)
		}
		if l := List(b); !slices.Equal(l, all) {
			t.Errorf("List(%#x): %d; want %d", b, l, all)
		}
	}
}

// P2.1: the empty set, the full one, and those of an end alone, written out.
func TestOfSetsWrittenOut(t *testing.T) {
	for _, c := range []struct {
		b                      uint64
		count, least, greatest int
	}{
		{0, 0, -1, -1},
		{full, 64, 0, 63},
		{1, 1, 0, 0},
		{1 << 63, 1, 63, 63},
		{1<<63 | 1, 2, 0, 63},
		{5, 2, 0, 2},
		{14, 3, 1, 3},
		{full - 1, 63, 1, 63},
		{full >> 1, 63, 0, 62},
	} {
		if n := Count(c.b); n != c.count {
			t.Errorf("Count(%#x): %d; want %d", c.b, n, c.count)
		}
		if n := Least(c.b); n != c.least {
			t.Errorf("Least(%#x): %d; want %d", c.b, n, c.least)
		}
		if n := Greatest(c.b); n != c.greatest {
			t.Errorf("Greatest(%#x): %d; want %d", c.b, n, c.greatest)
		}
	}
}

// P2.1: List, written out: none of the empty set, and each end.
func TestListWrittenOut(t *testing.T) {
	for _, c := range []struct {
		b uint64
		l []int
	}{
		{0, nil},
		{1, []int{0}},
		{1 << 63, []int{63}},
		{1<<63 | 1, []int{0, 63}},
		{5, []int{0, 2}},
		{14, []int{1, 2, 3}},
		{3 << 31, []int{31, 32}},
	} {
		if l := List(c.b); !slices.Equal(l, c.l) {
			t.Errorf("List(%#x): %d; want %d", c.b, l, c.l)
		}
	}
}

// P2.1: Next of all the sets from all the numbers, within and without.
func TestNext(t *testing.T) {
	for _, b := range sets() {
		all := members(b)
		for _, at := range numbers() {
			want := -1
			if i := slices.IndexFunc(all, func(k int) bool { return k >= at }); i >= 0 {
				want = all[i]
			}
			if n := Next(b, at); n != want {
				t.Errorf("Next(%#x, %d): %d; want %d", b, at, n, want)
			}
		}
	}
}

// P2.1: Next, written out; the chapter's example is among these.
func TestNextWrittenOut(t *testing.T) {
	for _, c := range []struct {
		b        uint64
		at, want int
	}{
		{5, 1, 2},
		{5, 0, 0},
		{5, 2, 2},
		{5, 3, -1},
		{5, -1, 0},
		{5, math.MinInt, 0},
		{0, 0, -1},
		{0, math.MinInt, -1},
		{0, 63, -1},
		{full, 0, 0},
		{full, 63, 63},
		{full, 64, -1},
		{full, 65, -1},
		{full, math.MaxInt, -1},
		{1 << 63, 0, 63},
		{1 << 63, 63, 63},
		{1 << 63, 64, -1},
		{1, 64, -1},
		{1, 1 << 32, -1},
	} {
		if n := Next(c.b, c.at); n != c.want {
			t.Errorf("Next(%#x, %d): %d; want %d", c.b, c.at, n, c.want)
		}
	}
}

// P2.2: First of all the numbers.
func TestFirst(t *testing.T) {
	for _, n := range numbers() {
		want := such(func(k int) bool { return k < n })
		if b := First(n); b != want {
			t.Errorf("First(%d): %#x; want %#x", n, b, want)
		}
	}
}

// P2.2: Between of all pairs of the numbers, the low end above the high one too.
func TestBetween(t *testing.T) {
	for _, low := range numbers() {
		for _, high := range numbers() {
			want := such(func(k int) bool { return k >= low && k <= high })
			if b := Between(low, high); b != want {
				t.Errorf("Between(%d, %d): %#x; want %#x", low, high, b, want)
			}
		}
	}
}

// P2.2: First and Between, written out; the chapter's example is among these.
func TestRangesWrittenOut(t *testing.T) {
	for _, c := range []struct {
		n    int
		want uint64
	}{
		{math.MinInt, 0}, {-1, 0}, {0, 0}, {1, 1}, {2, 3}, {62, full >> 2}, {63, full >> 1}, {64, full}, {65, full}, {math.MaxInt, full},
	} {
		if b := First(c.n); b != c.want {
			t.Errorf("First(%d): %#x; want %#x", c.n, b, c.want)
		}
	}
	for _, c := range []struct {
		low, high int
		want      uint64
	}{
		{1, 3, 14},
		{0, 0, 1},
		{63, 63, 1 << 63},
		{0, 63, full},
		{-1, 64, full},
		{math.MinInt, math.MaxInt, full},
		{0, math.MaxInt, full},
		{63, math.MaxInt, 1 << 63},
		{math.MinInt, 0, 1},
		{62, 64, 3 << 62},
		{-5, 1, 3},
		{3, 1, 0},
		{1, 0, 0},
		{63, 0, 0},
		{-2, -1, 0},
		{64, 64, 0},
		{64, 99, 0},
		{math.MaxInt, math.MaxInt, 0},
		{math.MinInt, math.MinInt, 0},
		{math.MaxInt, math.MinInt, 0},
	} {
		if b := Between(c.low, c.high); b != c.want {
			t.Errorf("Between(%d, %d): %#x; want %#x", c.low, c.high, b, c.want)
		}
	}
}

// P2.2: Of, in any order and each as often as may be, with numbers that no set holds.
func TestOf(t *testing.T) {
	for _, c := range []struct {
		l    []int
		want uint64
	}{
		{nil, 0},
		{[]int{}, 0},
		{[]int{0}, 1},
		{[]int{63}, 1 << 63},
		{[]int{3, 1, 2}, 14},
		{[]int{2, 2, 2}, 4},
		{[]int{63, 0, 63, 0}, 1<<63 | 1},
		{[]int{-1}, 0},
		{[]int{64}, 0},
		{[]int{-1, 0, 63, 64}, 1<<63 | 1},
		{[]int{math.MinInt, 5, math.MaxInt}, 32},
		{[]int{-64, -63, 65, 127, 128, 1 << 32, 1<<32 + 5}, 0},
		{numbers(), full},
	} {
		if b := Of(c.l...); b != c.want {
			t.Errorf("Of(%d): %#x; want %#x", c.l, b, c.want)
		}
	}
	if b := Of(); b != 0 {
		t.Errorf("Of(): %#x", b)
	}
	for _, n := range numbers() {
		want := such(func(k int) bool { return k == n })
		if b := Of(n); b != want {
			t.Errorf("Of(%d): %#x; want %#x", n, b, want)
		}
	}
}

// P2.3: what is listed makes the set again, in whichever order.
func TestListMakesTheSetAgain(t *testing.T) {
	for _, b := range sets() {
		l := List(b)
		if again := Of(l...); again != b {
			t.Errorf("Of(List(%#x)): %#x", b, again)
		}
		slices.Reverse(l)
		if again := Of(l...); again != b {
			t.Errorf("Of(List(%#x)) turned about: %#x", b, again)
		}
		if len(l) != Count(b) {
			t.Errorf("List(%#x) has %d, Count tells %d", b, len(l), Count(b))
		}
	}
}

// P2.3: Next goes through all, from the least to the greatest, and ends.
func TestNextGoesThroughAll(t *testing.T) {
	for _, b := range sets() {
		var l []int
		for k := Next(b, 0); k >= 0 && len(l) <= 64; k = Next(b, k+1) {
			l = append(l, k)
		}
		if !slices.Equal(l, List(b)) {
			t.Errorf("Next goes through %#x as %d; want %d", b, l, List(b))
		}
		if len(l) > 0 && (l[0] != Least(b) || l[len(l)-1] != Greatest(b)) {
			t.Errorf("Next goes through %#x from %d to %d; want %d, %d", b, l[0], l[len(l)-1], Least(b), Greatest(b))
		}
	}
}

// P2.3: Between is what both ends leave: what is below low is gone, and what is above high.
func TestBetweenIsWhatBothEndsLeave(t *testing.T) {
	for _, low := range numbers() {
		for _, high := range numbers() {
			want := Between(low, 63) & Between(0, high)
			if b := Between(low, high); b != want {
				t.Errorf("Between(%d, %d): %#x; the ends leave %#x", low, high, b, want)
			}
			if high < math.MaxInt && First(high+1)&^First(low) != want {
				t.Errorf("Between(%d, %d): %#x; First leaves %#x", low, high, want, First(high+1)&^First(low))
			}
		}
	}
}

// R3: a list that is answered is the asker's own, and one that is handed in stays as it was.
func TestListsAreNotShared(t *testing.T) {
	l := List(14)
	l[0] = 63
	if again := List(14); !slices.Equal(again, []int{1, 2, 3}) {
		t.Errorf("List(0xe), once an answer was changed: %d", again)
	}
	given := []int{7, -1, 64, 3, 7}
	Of(given...)
	if !slices.Equal(given, []int{7, -1, 64, 3, 7}) {
		t.Errorf("Of changed its list: %d", given)
	}
}

// A set may be left midway: what goes through it hands out no more then.
func TestEachIsLeftMidway(t *testing.T) {
	for _, b := range sets() {
		all := members(b)
		for most := 1; most <= len(all); most++ {
			var l []int
			for k := range each(b) {
				l = append(l, k)
				if len(l) == most {
					break
				}
			}
			if !slices.Equal(l, all[:most]) {
				t.Errorf("%d of %#x: %d; want %d", most, b, l, all[:most])
			}
		}
	}
}
