package element

import (
	"fmt"
	"math"
	"reflect"
	"slices"
	"testing"

	"stratagem/api"
	"stratagem/dom"
	"stratagem/ground"
)

// most is the greatest number.
const most = api.MostNum

// list is a short name of domains.
type list = []dom.Dom

// of is a domain of values, all left.
func of(vals ...int) dom.Dom {
	return dom.Dom{Vals: vals, Live: uint64(1)<<len(vals) - 1}
}

// run is a domain of all values from low to high, all left.
func run(low, high int) dom.Dom {
	return of(numbers(low, high)...)
}

// some is a domain of all values from low to high, of which just some are left.
func some(low, high int, left ...int) dom.Dom {
	d := dom.Dom{Vals: numbers(low, high)}
	for _, v := range left {
		d.Live |= 1 << (v - low)
	}
	return d
}

// numbers are those from low to high.
func numbers(low, high int) []int {
	l := []int{}
	for v := low; v <= high; v++ {
		l = append(l, v)
	}
	return l
}

// only is a list of numbers; of none it isn't nil.
func only(l ...int) []int {
	return append([]int{}, l...)
}

// times is so many domains, each like one.
func times(n int, d dom.Dom) list {
	var l list
	for range n {
		l = append(l, dom.Dom{Vals: slices.Clone(d.Vals), Live: d.Live})
	}
	return l
}

// element is the constraint of two variables, the first of which tells a place, the second the number there.
func element(x, y int, nums ...int) api.Con {
	return api.Con{Kind: api.Element, Vars: []int{x, y}, Nums: nums}
}

// copied is the same domains, with memory of their own.
func copied(l list) list {
	if l == nil {
		return nil
	}
	c := make(list, len(l))
	for i, d := range l {
		c[i] = dom.Dom{Vals: slices.Clone(d.Vals), Live: d.Live}
	}
	return c
}

// copiedCon is the same constraint, with memory of its own.
func copiedCon(c api.Con) api.Con {
	c.Vars, c.Coefs, c.Nums = slices.Clone(c.Vars), slices.Clone(c.Coefs), slices.Clone(c.Nums)
	return c
}

// values tells what is left of domains.
func values(l list) [][]int {
	all := [][]int{}
	for _, d := range l {
		all = append(all, left(d))
	}
	return all
}

// short tells a thing as some words, however great it is.
func short(x any) string {
	s := fmt.Sprint(x)
	return s[:min(len(s), 400)]
}

// step looks what a step leaves, and that it changes nothing else.
func step(t *testing.T, c api.Con, l list, want [][]int) {
	t.Helper()
	con, was := copiedCon(c), copied(l)
	got, e := Step(c, l)
	if e != api.OK || len(got) != len(l) {
		t.Errorf("Step of %s, %s: %d domains, error %d", short(c), short(l), len(got), e)
		return
	}
	for i, d := range got {
		if !slices.Equal(d.Vals, l[i].Vals) || !dom.May(d) {
			t.Errorf("Step of %s, %s: of %d %s", short(c), short(l), i, short(d))
		}
	}
	if !reflect.DeepEqual(values(got), want) {
		t.Errorf("Step of %s, %s (left %s): leaves %s, not %s", short(c), short(l), short(values(l)), short(values(got)), short(want))
	}
	if !reflect.DeepEqual(c, con) || !reflect.DeepEqual(l, was) {
		t.Errorf("Step of %s, %s: they were %s, %s", short(c), short(l), short(con), short(was))
	}
}

// leaves looks what a step leaves of two domains, of a list's places and of its numbers: in either order, and among
// other domains in other orders, all of which stays.
func leaves(t *testing.T, nums []int, x, y dom.Dom, want ...[]int) {
	t.Helper()
	step(t, element(0, 1, nums...), list{x, y}, want)
	step(t, element(1, 0, nums...), list{y, x}, [][]int{want[1], want[0]})
	d := dice(1)
	for range 6 {
		n := 2 + d.upTo(5)
		places := d.order(n)
		var wider list
		for range n {
			wider = append(wider, thrownDom(&d, 3))
		}
		wants := values(wider)
		for i, one := range (list{x, y}) {
			wider[places[i]], wants[places[i]] = one, want[i]
		}
		step(t, element(places[0], places[1], nums...), wider, wants)
	}
}

// alike looks whether a step leaves what the chapter's words say.
func alike(t *testing.T, c api.Con, l list) {
	t.Helper()
	want, right := plainStep(c, l)
	if !right {
		t.Errorf("no step of %s, %s", short(c), short(l))
		return
	}
	step(t, c, l, want)
}

// refused looks whether there is no step.
func refused(t *testing.T, c api.Con, l list) {
	t.Helper()
	con, was := copiedCon(c), copied(l)
	if got, e := Step(c, l); e != api.ErrArg || got != nil {
		t.Errorf("Step of %s, %s: %s, error %d", short(c), short(l), short(got), e)
	}
	if !reflect.DeepEqual(c, con) || !reflect.DeepEqual(l, was) {
		t.Errorf("Step of %s, %s: they were %s, %s", short(c), short(l), short(con), short(was))
	}
}

// P14.1: the chapter's example.
func TestExample(t *testing.T) {
	leaves(t, only(5, 5, 7), run(0, 9), run(5, 6), only(0, 1), only(5))
}

// P14.1: all, some, and none is left of each of the two variables.
func TestElement(t *testing.T) {
	nums := only(4, 7, -2, 9)
	leaves(t, nums, of(1), of(7), only(1), only(7))
	leaves(t, nums, of(1), of(4), only(), only())
	leaves(t, nums, run(0, 3), of(-2, 4, 7, 9), only(0, 1, 2, 3), only(-2, 4, 7, 9))
	leaves(t, nums, run(0, 3), run(-9, 9), only(0, 1, 2, 3), only(-2, 4, 7, 9))
	leaves(t, nums, run(0, 3), of(4, 9), only(0, 3), only(4, 9))
	leaves(t, nums, run(0, 3), of(4, 5, 6, 8, 9), only(0, 3), only(4, 9))
	leaves(t, nums, run(0, 3), of(5, 6, 8), only(), only())
	leaves(t, nums, of(1, 2), of(-2, 7), only(1, 2), only(-2, 7))
	leaves(t, nums, of(1, 2), of(-2, 4, 7, 9), only(1, 2), only(-2, 7))
	leaves(t, nums, of(1, 2), of(4, 9), only(), only())
	leaves(t, nums, of(1, 2), of(4, 7, 9), only(1), only(7))
	leaves(t, nums, of(0, 2, 3), of(7, 8, 9), only(3), only(9))
	leaves(t, nums, run(-3, 8), run(-3, 8), only(0, 1, 2), only(-2, 4, 7))
	// A list that tells its own places.
	leaves(t, only(3, 2, 1, 0), run(0, 3), run(0, 3), only(0, 1, 2, 3), only(0, 1, 2, 3))
	leaves(t, only(3, 2, 1, 0), of(0, 1), run(0, 3), only(0, 1), only(2, 3))
	leaves(t, only(3, 2, 1, 0), of(0, 1), of(0, 1), only(), only())
	leaves(t, only(0, 1, 2, 3), of(0, 1), of(1, 2), only(1), only(1))
	leaves(t, only(1, 2, 3, 4), run(0, 3), run(0, 3), only(0, 1, 2), only(1, 2, 3))
}

// P14.1: values of the first variable that are no places: below 0, and how many numbers there are, or more.
func TestPlaces(t *testing.T) {
	leaves(t, only(6, 7, 8), run(-5, 5), run(0, 9), only(0, 1, 2), only(6, 7, 8))
	leaves(t, only(6, 7, 8), of(-1), run(0, 9), only(), only())
	leaves(t, only(6, 7, 8), of(-1, 0), run(0, 9), only(0), only(6))
	leaves(t, only(6, 7, 8), of(-1, 3), run(0, 9), only(), only())
	leaves(t, only(6, 7, 8), of(3), run(0, 9), only(), only())
	leaves(t, only(6, 7, 8), of(2, 3), run(0, 9), only(2), only(8))
	leaves(t, only(6, 7, 8), of(2), run(0, 9), only(2), only(8))
	leaves(t, only(6, 7, 8), of(0), run(0, 9), only(0), only(6))
	leaves(t, only(6, 7, 8), of(4, 5, 6, 7, 8), run(0, 9), only(), only())
	leaves(t, only(6, 7, 8), of(-3, -2, -1), run(0, 9), only(), only())
	leaves(t, only(6, 7, 8), of(-most, 1, most), run(0, 9), only(1), only(7))
	leaves(t, only(6, 7, 8), of(-most, most), run(0, 9), only(), only())
	// 256 and 2^16 more than a place is none, and no place counts from the end.
	leaves(t, only(6, 7, 8), of(-256, -255, 256, 257, 1<<16, 1<<16+1), run(0, 9), only(), only())
	leaves(t, only(6, 7, 8), of(-3, -2, 0), of(6, 7), only(0), only(6))
	// Where there is no number, there is no 0 either.
	leaves(t, only(6, 7, 8), run(-5, 5), of(0), only(), only())
	leaves(t, only(6, 0, 8), run(-5, 5), of(0), only(1), only(0))
	leaves(t, only(6, 0, 8), of(-1, 0, 2, 3), of(0), only(), only())
	leaves(t, only(0, 0, 0), of(-2, -1, 3, 4), of(0), only(), only())
	// Each count of numbers, with what lies about its ends.
	for n := 1; n <= api.MostNums; n++ {
		nums := slices.Repeat([]int{5}, n)
		leaves(t, nums, of(-1, n), of(5), only(), only())
		leaves(t, nums, of(-1, n-1, n, n+1), of(5), only(n-1), only(5))
		leaves(t, nums, of(n, n+1, 200), of(5), only(), only())
		nums[n-1] = 6
		leaves(t, nums, of(-1, n-1, n), of(5, 6), only(n-1), only(6))
		leaves(t, nums, of(-1, n), of(5, 6), only(), only())
	}
}

// P14.1: numbers that stand at two places or more: each place is kept of one that is left, and one that is left is kept
// for the sake of any of its places, be it the first, the last, or one between.
func TestTwice(t *testing.T) {
	nums := only(5, 8, 5, 3, 5)
	leaves(t, nums, run(0, 4), of(5), only(0, 2, 4), only(5))
	leaves(t, nums, run(0, 4), of(3, 5), only(0, 2, 3, 4), only(3, 5))
	leaves(t, nums, run(0, 4), of(3, 8), only(1, 3), only(3, 8))
	leaves(t, nums, of(0), run(0, 9), only(0), only(5))
	leaves(t, nums, of(2), run(0, 9), only(2), only(5))
	leaves(t, nums, of(4), run(0, 9), only(4), only(5))
	leaves(t, nums, of(0, 3), run(0, 9), only(0, 3), only(3, 5))
	leaves(t, nums, of(1, 2, 3), run(0, 9), only(1, 2, 3), only(3, 5, 8))
	leaves(t, nums, of(3, 4), run(0, 9), only(3, 4), only(3, 5))
	leaves(t, nums, of(1, 3), run(0, 9), only(1, 3), only(3, 8))
	leaves(t, nums, of(1, 3), of(4, 5, 8), only(1), only(8))
	leaves(t, nums, of(0, 2), of(3, 5, 8), only(0, 2), only(5))
	leaves(t, nums, of(0, 2, 4), of(3, 8), only(), only())
	leaves(t, only(7, 7), run(0, 1), run(6, 8), only(0, 1), only(7))
	leaves(t, only(7, 7), run(0, 1), of(6, 8), only(), only())
	leaves(t, only(0, 0, 0), run(-3, 3), run(-3, 3), only(0, 1, 2), only(0))
	// Of a number at all places, each alone is enough.
	for n := 1; n <= api.MostNums; n++ {
		nums := slices.Repeat([]int{-9}, n)
		for _, at := range []int{0, n / 2, n - 1} {
			leaves(t, nums, of(at), run(-10, -8), only(at), only(-9))
		}
		leaves(t, nums, run(max(0, n-64), n-1), run(-10, -8), numbers(max(0, n-64), n-1), only(-9))
	}
	// Of one at just two places, either is.
	for at := 1; at < api.MostNums; at++ {
		nums := numbers(100, 195)
		nums[0], nums[at] = -1, -1
		leaves(t, nums, of(0, at), of(-1, 0), only(0, at), only(-1))
		leaves(t, nums, of(at), of(-1, 0), only(at), only(-1))
		leaves(t, nums, of(0), of(-1, 0), only(0), only(-1))
	}
}

// P14.1: numbers below 0, 0, and above it, the least and the greatest that may be.
func TestNumbers(t *testing.T) {
	leaves(t, only(-most, 0, most), run(0, 2), of(-most, 0, most), only(0, 1, 2), only(-most, 0, most))
	leaves(t, only(-most, 0, most), run(0, 2), of(-most, most), only(0, 2), only(-most, most))
	leaves(t, only(-most, 0, most), run(0, 2), of(-most+1, 0, most-1), only(1), only(0))
	leaves(t, only(-most, most), run(0, 2), of(-most), only(0), only(-most))
	leaves(t, only(-most, most), run(0, 2), of(most), only(1), only(most))
	leaves(t, only(-most, most), of(0), of(-most, most), only(0), only(-most))
	leaves(t, only(-most, most), of(1), of(-most, most), only(1), only(most))
	leaves(t, only(-3, 3), run(0, 1), of(-3), only(0), only(-3))
	leaves(t, only(-3, 3), run(0, 1), of(3), only(1), only(3))
	leaves(t, only(-3), run(0, 1), of(3), only(), only())
	leaves(t, only(0), run(0, 1), run(-1, 1), only(0), only(0))
	leaves(t, only(0), run(0, 1), of(-1, 1), only(), only())
	leaves(t, only(-1), run(-1, 1), run(-1, 1), only(0), only(-1))
	leaves(t, only(1), run(-1, 1), run(-1, 1), only(0), only(1))
	// Numbers that are alike in their last 8, 16 or 20 bits are unlike.
	leaves(t, only(1, 257, 1<<16+1, 1-1<<20), run(0, 3), of(1), only(0), only(1))
	leaves(t, only(1, 257, 1<<16+1, 1-1<<20), run(0, 3), of(1-1<<20, 257), only(1, 3), only(1-1<<20, 257))
	leaves(t, only(257, 1<<16+1), run(0, 3), of(1, 2), only(), only())
}

// P14.1: one number alone, and as many as may be.
func TestCounts(t *testing.T) {
	leaves(t, only(5), of(0), of(5), only(0), only(5))
	leaves(t, only(5), of(0), of(6), only(), only())
	leaves(t, only(5), of(1), of(5), only(), only())
	leaves(t, only(5), run(-31, 32), run(-31, 32), only(0), only(5))
	nums := numbers(-50, 45)
	leaves(t, nums, run(0, 63), run(-50, 13), numbers(0, 63), numbers(-50, 13))
	leaves(t, nums, run(32, 95), run(-18, 45), numbers(32, 95), numbers(-18, 45))
	leaves(t, nums, run(33, 96), run(-18, 45), numbers(33, 95), numbers(-17, 45))
	leaves(t, nums, run(-10, 53), run(-50, 13), numbers(0, 53), numbers(-50, 3))
	leaves(t, nums, of(94, 95, 96), run(0, 63), only(94, 95), only(44, 45))
	leaves(t, nums, of(96), run(0, 63), only(), only())
	for at, n := range nums {
		leaves(t, nums, of(at), of(n), only(at), only(n))
		leaves(t, nums, of(-1, at, 96), of(n, most), only(at), only(n))
		low := max(0, at-40)
		leaves(t, nums, run(low, low+63), of(n), only(at), only(n))
		low = max(-50, n-40)
		leaves(t, nums, of(at), run(low, low+63), only(at), only(n))
	}
	slices.Reverse(nums)
	leaves(t, nums, run(0, 63), run(-50, 13), numbers(32, 63), numbers(-18, 13))
}

// P14.1: values that are not left do for nothing, and gaps are gaps.
func TestLeft(t *testing.T) {
	nums := only(9, 8, 7, 6, 5, 4)
	leaves(t, nums, some(0, 5, 1, 4), run(0, 9), only(1, 4), only(5, 8))
	leaves(t, nums, run(0, 5), some(0, 9, 4, 9), only(0, 5), only(4, 9))
	leaves(t, nums, some(0, 5, 0, 1, 5), some(0, 9, 4, 7, 8), only(1, 5), only(4, 8))
	leaves(t, nums, some(0, 5, 0, 2, 4), some(0, 9, 4, 6, 8), only(), only())
	leaves(t, nums, some(-3, 9, -3, -1, 2, 6), some(0, 9, 0, 1, 7), only(2), only(7))
	leaves(t, nums, some(-3, 9, -3, -1, 6), run(0, 9), only(), only())
	leaves(t, only(4, 6, 4, 6), some(0, 3, 0, 3), some(4, 6, 5, 6), only(3), only(6))
	leaves(t, only(4, 6, 4, 6), some(0, 3, 0, 2), some(4, 6, 5, 6), only(), only())
	leaves(t, only(4, 6, 4, 6), some(0, 3, 1, 2), some(4, 6, 4), only(2), only(4))
	leaves(t, only(700, -40, 50), of(0, 2, 9), of(-40, 50, 800), only(2), only(50))
	leaves(t, only(0, 1, 0), some(0, 2, 1), some(0, 1, 0), only(), only())
	leaves(t, only(0, 1, 0), some(0, 2, 2), some(0, 1, 0), only(2), only(0))
}

// P14.1: variables in all orders, each with a domain of its own, so that no two can stand for each other.
func TestOrders(t *testing.T) {
	l := list{run(0, 3), run(-3, 5), some(-9, 9, -8, 1, 4, 6), of(-20, 2, 30), run(2, 6), of(-8, 0, 1, 2)}
	for x := range l {
		for y := range l {
			if x != y {
				alike(t, element(x, y, 2, 6, -8, 2, 30, 1), l)
				alike(t, element(x, y, 1, 0), l)
			}
		}
	}
	small := list{of(0), of(1)}
	step(t, element(0, 1, 1, 9), small, [][]int{only(0), only(1)})
	step(t, element(1, 0, 1, 9), small, [][]int{only(), only()})
	step(t, element(1, 0, 9, 0), small, [][]int{only(0), only(1)})
	step(t, element(0, 1, 9, 0), small, [][]int{only(), only()})
}

// P14.1: of domains of which one has nothing left: nothing of any of the constraint's, if it is one of these, else all
// that the other two leave.
func TestWiped(t *testing.T) {
	for _, full := range []dom.Dom{run(0, 3), run(-3, 3), of(0), of(1), run(0, 63)} {
		for _, empty := range []dom.Dom{some(0, 3), some(-31, 32), {}, {Vals: []int{}}, some(0, 0)} {
			for _, nums := range [][]int{{0}, {0, 1, 2, 3}, {1, 1, 1}, {0, 0, 0, 0, 0}} {
				leaves(t, nums, empty, full, only(), only())
				leaves(t, nums, full, empty, only(), only())
				leaves(t, nums, empty, empty, only(), only())
			}
			// Nothing is left of one that the constraint doesn't name.
			step(t, element(2, 0, 4, 2, 3), list{of(2, 7), empty, run(0, 3)}, [][]int{only(2), only(), only(1)})
			step(t, element(1, 2, 4, 2, 3), list{empty, run(0, 3), of(3, 7)}, [][]int{only(), only(2), only(3)})
			step(t, element(1, 0, 4, 2, 3), list{of(3, 7), run(0, 3), empty}, [][]int{only(3), only(2), only()})
			step(t, element(1, 0, 4, 2, 3), list{of(8), run(0, 3), empty}, [][]int{only(), only(), only()})
			// The others stay, though nothing is left of the constraint's own.
			step(t, element(3, 0, 1, 2), list{empty, run(0, 9), of(4), of(0)}, [][]int{only(), numbers(0, 9), only(4), only()})
			step(t, element(0, 3, 1, 2), list{empty, run(0, 9), of(4), of(0)}, [][]int{only(), numbers(0, 9), only(4), only()})
		}
	}
}

// P14.1: a step is asked of what was left ahead of it: what one of both loses changes nothing of what the other one
// keeps; and of what it leaves all stays.
func TestAhead(t *testing.T) {
	leaves(t, only(5, 6, 5, 7), of(0, 1, 4), of(5, 7), only(0), only(5))
	leaves(t, only(5, 6, 5, 7), of(1, 2, 4), of(5, 7), only(2), only(5))
	leaves(t, only(1, 0, 3, 2), of(0, 2, 4), of(0, 1, 2), only(0), only(1))
	leaves(t, only(1, 2, 3, 0), run(0, 2), run(0, 2), only(0, 1), only(1, 2))
	d := dice(3)
	for range 3000 {
		c, l := thrown(&d, 2+d.upTo(5), 40)
		got, e := Step(c, l)
		if e != api.OK {
			t.Errorf("Step of %s, %s: error %d", short(c), short(l), e)
			continue
		}
		step(t, c, got, values(got))
	}
}

// P14.1: all small domains.
func TestPlainSmall(t *testing.T) {
	for _, nums := range [][]int{{0}, {3}, {1, 1}, {3, 0}, {-1, 2, -1}, {0, 0, 0}, {2, 1, 0, -1}, {1, 3, 1, 0, 1}} {
		for x := range uint64(32) {
			for y := range uint64(32) {
				vals := numbers(-1, 3)
				alike(t, element(0, 1, nums...), list{{Vals: vals, Live: x}, {Vals: vals, Live: y}})
				alike(t, element(1, 0, nums...), list{{Vals: vals, Live: x}, {Vals: vals, Live: y}})
			}
		}
	}
}

// P14.1: domains of as many values as may be.
func TestMost(t *testing.T) {
	for _, count := range []int{1, 2, 30, 63, 64, 65, 95, 96} {
		for _, by := range []int{-3, -1, 0, 1, 2} {
			nums := []int{}
			for k := range count {
				nums = append(nums, by*k+k%3)
			}
			for _, low := range []int{-most, -64, -63, -31, -1, 0, 1, 31, 32, 33, 95, 96, most - 63} {
				for _, other := range []int{-most, -200, -64, -63, -31, 0, 1, 40, 130, most - 63} {
					alike(t, element(2, 0, nums...), list{run(other, other+63), run(3, 66), run(low, low+63)})
					alike(t, element(0, 2, nums...), list{run(low, low+63), run(3, 66), run(other, other+63)})
				}
			}
		}
	}
	d := dice(4)
	for range 600 {
		var l list
		for range 2 {
			one := run(0, 63)
			for k := range one.Vals {
				one.Vals[k] = k*(1+k%3) - d.upTo(2)
			}
			slices.Sort(one.Vals)
			one.Vals = slices.Compact(one.Vals)
			one.Live = (uint64(d.upTo(1<<30))<<34 | uint64(d.upTo(1<<30))<<4) & (uint64(1)<<len(one.Vals) - 1)
			l = append(l, one)
		}
		c := element(0, 1)
		for range api.MostNums {
			c.Nums = append(c.Nums, d.upTo(140)-5)
		}
		alike(t, c, l)
		c.Vars[0], c.Vars[1] = 1, 0
		alike(t, c, l)
	}
}

// P14.1: values at the last places, of domains that have as many as may be.
func TestLastPlaces(t *testing.T) {
	d := dom.Dom{Vals: numbers(-63, 0), Live: 1<<63 | 1<<62}
	leaves(t, only(7, 8), d, of(7, 8), only(0), only(7))
	leaves(t, only(7, -1), of(0, 1), d, only(1), only(-1))
	leaves(t, only(0, -1, -2), run(0, 2), d, only(0, 1), only(-1, 0))
	leaves(t, numbers(200, 295), run(32, 95), of(200, 231, 232, 295), only(32, 95), only(232, 295))
	leaves(t, numbers(200, 295), of(0, 30, 31, 94, 95), run(231, 294), only(31, 94), only(231, 294))
	last := dom.Dom{Vals: numbers(32, 95), Live: 1 << 63}
	leaves(t, numbers(200, 295), last, run(232, 295), only(95), only(295))
	leaves(t, numbers(200, 295), last, run(231, 294), only(), only())
}

// P14.1: thrown constraints and domains, some of which may not be, as the chapter's words have it.
func TestPlainThrown(t *testing.T) {
	d := dice(5)
	told := map[string]int{}
	for range 12000 {
		c, l := thrown(&d, 2+d.upTo(6), 60)
		switch d.upTo(16) {
		case 0:
			l = l[:d.upTo(len(l))]
		case 1:
			l[d.upTo(len(l))].Live = 1 << d.upTo(64)
		case 2:
			c.Kind = d.upTo(9) - 1
		case 3:
			c.Vars = c.Vars[:len(c.Vars)-d.upTo(2)]
			c.Rel = d.of(0, 0, 0, 1, -1)
		case 4:
			c.Nums[d.upTo(len(c.Nums))] = d.of(-most, most, -most-1, most+1, 0)
		}
		want, right := plainStep(c, l)
		if !right {
			refused(t, c, l)
			told["none"]++
			continue
		}
		step(t, c, l, want)
		for at, i := range c.Vars {
			switch {
			case len(left(l[i])) == 0:
				told[fmt.Sprint("empty ", at)]++
			case len(want[i]) == len(left(l[i])):
				told[fmt.Sprint("all ", at)]++
			case len(want[i]) == 0:
				told[fmt.Sprint("wiped ", at)]++
			default:
				told[fmt.Sprint("some ", at)]++
			}
		}
	}
	for _, s := range []string{"none", "empty 0", "empty 1", "all 0", "all 1", "wiped 0", "wiped 1", "some 0", "some 1"} {
		if told[s] < 100 {
			t.Errorf("too few of %s: %d", s, told[s])
		}
	}
}

// P14.1: constraints that need more variables than there are domains, and just as many.
func TestStepVars(t *testing.T) {
	c, l := element(0, 1, 0, 1), times(2, run(0, 1))
	refused(t, c, nil)
	refused(t, c, list{})
	refused(t, c, l[:1])
	step(t, c, l, values(l))
	for place := 1; place < 22; place++ {
		for at := range 2 {
			one := element(0, 0, 1, 2)
			one.Vars[at] = place
			refused(t, one, nil)
			refused(t, one, times(1, run(0, 1)))
			refused(t, one, times(place-1, run(0, 1)))
			refused(t, one, times(place, run(0, 1)))
			for more := 1; more < 4; more++ {
				l := times(place+more, run(0, 1))
				want := values(l)
				want[one.Vars[0]], want[one.Vars[1]] = only(0), only(1)
				step(t, one, l, want)
			}
		}
	}
}

// P14.1: constraints that may not be, or are of another kind.
func TestStepCons(t *testing.T) {
	l := times(12, run(0, 3))
	good := element(0, 1, 3, 1, 2)
	step(t, good, l, append([][]int{only(0, 1, 2), only(1, 2, 3)}, values(l[2:])...))
	for _, c := range []api.Con{
		{},
		{Kind: api.Element},
		{Kind: api.Element, Vars: []int{0, 1}},
		{Kind: api.Element, Nums: []int{0, 1}},
		{Kind: api.Linear, Vars: []int{0, 1}, Coefs: []int{1, 1}},
		{Kind: api.Product, Vars: []int{0, 1, 2}},
		{Kind: api.Iff, Vars: []int{0, 1}, Coefs: []int{1}},
		{Kind: api.Differ, Vars: []int{0, 1}},
		{Kind: api.Table, Vars: []int{0, 1}, Nums: []int{1, 1}},
		{Kind: api.Table, Vars: []int{0, 1}},
		{Vars: []int{0, 1}, Nums: []int{1, 1}},
	} {
		refused(t, c, l)
		refused(t, c, nil)
	}
	for i, spoil := range []func(c *api.Con){
		func(c *api.Con) { c.Kind = 0 },
		func(c *api.Con) { c.Kind = -1 },
		func(c *api.Con) { c.Kind = 7 },
		func(c *api.Con) { c.Kind = api.Linear },
		func(c *api.Con) { c.Kind = api.Product },
		func(c *api.Con) { c.Kind = api.Iff },
		func(c *api.Con) { c.Kind = api.Differ },
		func(c *api.Con) { c.Kind, c.Nums = api.Table, []int{1, 1} },
		func(c *api.Con) { c.Kind = -api.Element },
		func(c *api.Con) { c.Kind = math.MinInt },
		func(c *api.Con) { c.Kind = math.MaxInt },
		func(c *api.Con) { c.Kind += 1 << 32 },
		func(c *api.Con) { c.Kind += 1 << 8 },
		func(c *api.Con) { c.Vars = nil },
		func(c *api.Con) { c.Vars = []int{} },
		func(c *api.Con) { c.Vars = c.Vars[:1] },
		func(c *api.Con) { c.Vars = c.Vars[1:] },
		func(c *api.Con) { c.Vars = append(c.Vars, 9) },
		func(c *api.Con) { c.Vars = append(c.Vars, 9, 8) },
		func(c *api.Con) { c.Vars[1] = c.Vars[0] },
		func(c *api.Con) { c.Vars[0] = c.Vars[1] },
		func(c *api.Con) { c.Vars[0] = -1 },
		func(c *api.Con) { c.Vars[1] = -1 },
		func(c *api.Con) { c.Vars[0] = 12 },
		func(c *api.Con) { c.Vars[1] = 12 },
		func(c *api.Con) { c.Vars[0] = math.MinInt },
		func(c *api.Con) { c.Vars[1] = math.MinInt },
		func(c *api.Con) { c.Vars[0] = math.MaxInt },
		func(c *api.Con) { c.Vars[1] = math.MaxInt },
		func(c *api.Con) { c.Nums = nil },
		func(c *api.Con) { c.Nums = []int{} },
		func(c *api.Con) { c.Nums = make([]int, 97) },
		func(c *api.Con) { c.Nums = make([]int, 5000) },
		func(c *api.Con) { c.Nums[0] = most + 1 },
		func(c *api.Con) { c.Nums[1] = -most - 1 },
		func(c *api.Con) { c.Nums[2] = most + 1 },
		func(c *api.Con) { c.Nums[2] = -most - 1 },
		func(c *api.Con) { c.Nums[0] = math.MaxInt },
		func(c *api.Con) { c.Nums[1] = math.MinInt },
		func(c *api.Con) { c.Nums[2] = 1 << 32 },
		func(c *api.Con) { c.Nums = append(c.Nums, most+1) },
		func(c *api.Con) { c.Coefs = []int{0} },
		func(c *api.Con) { c.Coefs = []int{1, 1} },
		func(c *api.Con) { c.Coefs = []int{1, 1, 1} },
		func(c *api.Con) { c.Rel = 1 },
		func(c *api.Con) { c.Rel = -1 },
		func(c *api.Con) { c.Rel = 5 },
		func(c *api.Con) { c.Rel = math.MinInt },
		func(c *api.Con) { c.Const = 1 },
		func(c *api.Con) { c.Const = -1 },
		func(c *api.Con) { c.Const = math.MaxInt },
	} {
		c := copiedCon(good)
		spoil(&c)
		if _, e := Step(c, l); e != api.ErrArg {
			t.Errorf("fault %d: error %d", i, e)
		}
		refused(t, c, l)
		refused(t, c, nil)
		refused(t, c, times(12, dom.Dom{}))
	}
	// As many numbers as may be, and one more.
	nums := make([]int, api.MostNums)
	leaves(t, nums, of(0, 95, 96), of(0, 1), only(0, 95), only(0))
	refused(t, element(0, 1, append(nums, 0)...), l)
}

// wrongs are domains that may not be, each for one reason.
func wrongs() list {
	return list{
		{Vals: []int{2, 1}, Live: 3}, {Vals: []int{1, 1}, Live: 1}, {Vals: []int{1, 3, 2}}, {Vals: []int{0, 1, 1}, Live: 3},
		{Vals: []int{most + 1}, Live: 1}, {Vals: []int{-most - 1}, Live: 1}, {Vals: []int{0, most + 1}, Live: 1}, {Vals: []int{-most - 1, 0}},
		{Vals: []int{math.MinInt}, Live: 1}, {Vals: []int{math.MaxInt}, Live: 1}, {Vals: []int{0, math.MaxInt, math.MinInt}, Live: 7},
		{Live: 1}, {Vals: []int{}, Live: 1}, {Live: math.MaxUint64}, {Vals: []int{0, 1}, Live: 4}, {Vals: []int{0, 1}, Live: 7},
		{Vals: []int{0, 1}, Live: 1 << 63}, {Vals: numbers(0, 62), Live: math.MaxUint64},
		{Vals: numbers(0, 64), Live: math.MaxUint64}, {Vals: numbers(0, 64)}, {Vals: numbers(-500, 500), Live: 1},
	}
}

// P14.1: domains that may not be, of each variable of the constraint, and of others.
func TestStepDoms(t *testing.T) {
	c := element(3, 1, 0, 1)
	for _, wrong := range wrongs() {
		for at := range 6 {
			for _, other := range []dom.Dom{of(0, 1), of(0), some(0, 1), {}} {
				l := times(6, other)
				l[at] = wrong
				refused(t, c, l)
				refused(t, api.Con{Kind: api.Differ, Vars: []int{0, 1}}, l)
				refused(t, element(3, 6, 0, 1), l)
			}
		}
	}
	refused(t, c, times(6, wrongs()[0]))
	step(t, c, times(6, of(0, 1)), slices.Repeat([][]int{only(0, 1)}, 6))
}

// within tells whether all numbers of each list are of the other's, too.
func within(a, b [][]int) bool {
	for i, l := range a {
		for _, v := range l {
			if !slices.Contains(b[i], v) {
				return false
			}
		}
	}
	return len(a) == len(b)
}

// rows tells all rows of values, one of each list.
func rows(own [][]int) [][]int {
	l := [][]int{{}}
	for _, values := range own {
		var longer [][]int
		for _, row := range l {
			for _, v := range values {
				longer = append(longer, append(slices.Clone(row), v))
			}
		}
		l = longer
	}
	return l
}

// P14.2: no row that holds, and whose values are left, loses one; and each value that is kept stands in such a row.
func TestRows(t *testing.T) {
	d := dice(13)
	held, lost := 0, 0
	for range 9000 {
		c, l := thrown(&d, 2+d.upTo(5), 200)
		got, e := Step(c, l)
		if e != api.OK {
			t.Errorf("Step of %s, %s: error %d", short(c), short(l), e)
			continue
		}
		var own, kept, want [][]int
		for _, i := range c.Vars {
			own, kept, want = append(own, left(l[i])), append(kept, left(got[i])), append(want, only())
		}
		if len(own[0])*len(own[1]) > 1000 {
			continue
		}
		whole := make([]int, len(l))
		for _, row := range rows(own) {
			for at, i := range c.Vars {
				whole[i] = row[at]
			}
			if !ground.Holds(c, whole) {
				continue
			}
			held++
			for at, v := range row {
				want[at] = append(want[at], v)
			}
		}
		for at := range want {
			slices.Sort(want[at])
			want[at] = slices.Compact(want[at])
		}
		if !reflect.DeepEqual(kept, want) {
			t.Errorf("Step of %s, %s: keeps %s, but rows that hold have %s", short(c), short(l), short(kept), short(want))
		}
		if !reflect.DeepEqual(own, kept) {
			lost++
		}
	}
	if held < 10000 || lost < 1500 {
		t.Errorf("%d rows hold, %d times less is left", held, lost)
	}
}

// P14.2: what a step leaves was left ahead of it; of less, less is left.
func TestLess(t *testing.T) {
	d := dice(17)
	fewer := 0
	for range 8000 {
		c, l := thrown(&d, 2+d.upTo(5), 80)
		more, e := Step(c, l)
		if e != api.OK || !within(values(more), values(l)) {
			t.Errorf("Step of %s, %s: %s, error %d", short(c), short(l), short(more), e)
		}
		less := copied(l)
		for range 1 + d.upTo(4) {
			one := &less[c.Vars[d.upTo(2)]]
			one.Live &= ^(1 << d.upTo(len(one.Vals)))
		}
		got, e := Step(c, less)
		if e != api.OK || !within(values(got), values(more)) {
			t.Errorf("Step of %s: of %s leaves %s, of %s %s", short(c), short(values(l)), short(values(more)), short(values(less)), short(values(got)))
		}
		if !reflect.DeepEqual(values(got), values(more)) {
			fewer++
		}
	}
	if fewer < 1000 {
		t.Errorf("%d times less was left of less", fewer)
	}
}

// P14.2: what is left of single values is all, just if the constraint holds of them; else it is none.
func TestSingles(t *testing.T) {
	d := dice(19)
	told := map[bool]int{}
	for range 12000 {
		c, l := thrown(&d, 2+d.upTo(5), 1<<30)
		row := make([]int, len(l))
		for i := range l {
			k := d.upTo(len(l[i].Vals))
			row[i], l[i].Live = l[i].Vals[k], 1<<k
		}
		x, y := c.Vars[0], c.Vars[1]
		if d.upTo(2) == 0 {
			at := d.upTo(len(c.Nums))
			row[x], l[x], row[y], l[y] = at, of(at), c.Nums[at], of(c.Nums[at])
		}
		want := values(l)
		holds := ground.Holds(c, row)
		if !holds {
			want[x], want[y] = only(), only()
		}
		step(t, c, l, want)
		told[holds]++
	}
	if told[true] < 1000 || told[false] < 1000 {
		t.Errorf("%v", told)
	}
}

// P14.2: of all single values about 0, about the count of numbers, and at the ends.
func TestSinglesSmall(t *testing.T) {
	l := []int{-most, -256, -96, -4, -3, -2, -1, 0, 1, 2, 3, 4, 5, 6, 94, 95, 96, 97, 256, most}
	long := slices.Repeat([]int{-2, 96, 4}, 32)
	for _, nums := range [][]int{{0}, {-most, most}, {4, -1, 4, 0, -256}, long, long[:95]} {
		for _, row := range rows([][]int{l, l}) {
			want := [][]int{only(row[0]), only(row[1])}
			if !ground.Holds(element(0, 1, nums...), row) {
				want = [][]int{only(), only()}
			}
			step(t, element(0, 1, nums...), list{of(row[0]), of(row[1])}, want)
		}
	}
}

// spoilt fills all memory that domains have with other things, to its last place.
func spoilt(l list) {
	for i := range l {
		vals := l[i].Vals[:cap(l[i].Vals)]
		for k := range vals {
			vals[k] = 777
		}
	}
	l = l[:cap(l)]
	for i := range l {
		l[i] = dom.Dom{Vals: []int{888}, Live: 9}
	}
}

// P14.1, R3: answers share no memory with an argument, nor with another answer, nor within themselves.
func TestShared(t *testing.T) {
	d := dice(29)
	for range 3000 {
		c, l := thrown(&d, 6, 30)
		for i := range l {
			// There is room behind the last value.
			l[i].Vals = append(make([]int, 0, len(l[i].Vals)+3), l[i].Vals...)
		}
		// Two variables may have their values in the same place.
		l[d.upTo(6)] = l[d.upTo(6)]
		l = append(make(list, 0, 12), l...)
		con, was := copiedCon(c), copied(l)
		first, _ := Step(c, l)
		second, _ := Step(c, l)
		kept := copied(first)
		if !reflect.DeepEqual(first, second) {
			t.Errorf("Step of %s, %s: another time %s, not %s", short(c), short(l), short(second), short(first))
		}
		spoilt(second)
		if !reflect.DeepEqual(first, kept) || !reflect.DeepEqual(l, was) || !reflect.DeepEqual(c, con) {
			t.Errorf("Step of %s, %s: shared with the answer of another call", short(con), short(was))
		}
		for i := range first {
			vals := first[i].Vals[:cap(first[i].Vals)]
			for k := range vals {
				vals[k] = 777
			}
			if !reflect.DeepEqual(first[i+1:], kept[i+1:]) {
				t.Errorf("Step of %s, %s: what %d has is shared", short(con), short(was), i)
			}
		}
		spoilt(first)
		if !reflect.DeepEqual(l, was) || !reflect.DeepEqual(c, con) {
			t.Errorf("Step of %s, %s: now they are %s, %s", short(con), short(was), short(c), short(l))
		}
		third, _ := Step(c, l)
		for i := range c.Vars {
			c.Vars[i] = 999
		}
		for i := range c.Nums {
			c.Nums[i] = 999
		}
		spoilt(l)
		if !reflect.DeepEqual(third, kept) {
			t.Errorf("Step of %s, %s: the answer became %s", short(con), short(was), short(third))
		}
	}
}

// P14.1, R3: of domains whose values stand in the place of the list's numbers.
func TestSharedNumbers(t *testing.T) {
	nums := numbers(0, 9)
	l := list{{Vals: nums, Live: 1<<10 - 1}, {Vals: nums, Live: 0b110}}
	step(t, element(0, 1, nums...), l, [][]int{only(1, 2), only(1, 2)})
	step(t, element(1, 0, nums...), l, [][]int{only(1, 2), only(1, 2)})
}

// R6: no values are no values, whether there is a list of them or not.
func TestEmpty(t *testing.T) {
	c := element(1, 2, 4, 3)
	c.Coefs = []int{}
	for _, none := range []dom.Dom{{}, {Vals: []int{}}, {Vals: []int{1}[:0]}} {
		step(t, c, list{none, run(0, 3), run(2, 3)}, [][]int{only(), only(1), only(3)})
		step(t, c, list{run(0, 3), none, run(2, 3)}, [][]int{only(0, 1, 2, 3), only(), only()})
		step(t, c, list{run(0, 3), run(0, 3), none}, [][]int{only(0, 1, 2, 3), only(), only()})
		step(t, c, list{none, none, none}, [][]int{only(), only(), only()})
	}
}

// R1: every call ends and none panics, of very many domains, and of numbers at the ends of int.
func TestGreat(t *testing.T) {
	many := times(1<<16, run(0, 3))
	last := element(1<<16-1, 7, 6, 5, 10, 9)
	want := values(many)
	many[7] = of(9, 10)
	want[7], want[1<<16-1] = only(9, 10), only(2, 3)
	step(t, last, many, want)
	last.Vars[0] = 1 << 16
	refused(t, last, many)
	numbers := []int{math.MinInt, math.MaxInt, -1, 0, 1, 2, 3, most, 1 << 40}
	d := dice(31)
	stepped := 0
	for range 100000 {
		c := api.Con{Kind: d.of(4, 4, 4, 4, d.of(numbers...)), Rel: d.of(0, 0, 0, 0, 0, d.of(numbers...)), Const: d.of(0, 0, 0, 0, 0, d.of(numbers...))}
		for range d.of(2, 2, 2, 2, 1, 3) {
			c.Vars = append(c.Vars, d.of(0, 1, 2, 3, d.of(numbers...)))
		}
		for range d.of(0, 0, 0, 0, 0, 1) {
			c.Coefs = append(c.Coefs, d.of(numbers...))
		}
		for range d.of(1, 2, 3, 4, 0, 9) {
			c.Nums = append(c.Nums, d.of(-1, 0, 1, 1, 2, -most, most, d.of(0, 1, 2, 4, d.of(numbers...))))
		}
		var l list
		for range d.of(4, 4, 3, 2, 0) {
			var a dom.Dom
			for range d.upTo(4) {
				a.Vals = append(a.Vals, d.of(-2, -1, 0, 1, 2, 4, most, -most, d.of(numbers...)))
			}
			if d.upTo(5) > 0 {
				slices.Sort(a.Vals)
				a.Vals = slices.Compact(a.Vals)
			}
			a.Live = uint64(1)<<len(a.Vals) - 1
			if d.upTo(6) == 0 {
				a.Live = uint64(d.of(0, 1, 3, 7, 7, d.of(numbers...)))
			}
			l = append(l, a)
		}
		if want, right := plainStep(c, l); right {
			step(t, c, l, want)
			stepped++
		} else {
			refused(t, c, l)
		}
	}
	if stepped < 1000 {
		t.Errorf("just %d steps", stepped)
	}
}
