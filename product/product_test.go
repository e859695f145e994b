package product

import (
	"fmt"
	"math"
	"reflect"
	"slices"
	"testing"

	"stratagem/api"
	"stratagem/dom"
	"stratagem/ground"
)

// most is the greatest number.
const most = api.MostNum

// list is a short name of domains.
type list = []dom.Dom

// of is a domain of values, all left.
func of(vals ...int) dom.Dom {
	return dom.Dom{Vals: vals, Live: uint64(1)<<len(vals) - 1}
}

// run is a domain of all values from low to high, all left.
func run(low, high int) dom.Dom {
	return of(numbers(low, high)...)
}

// some is a domain of all values from low to high, of which just some are left.
func some(low, high int, left ...int) dom.Dom {
	d := dom.Dom{Vals: numbers(low, high)}
	for _, v := range left {
		d.Live |= 1 << (v - low)
	}
	return d
}

// numbers are those from low to high.
func numbers(low, high int) []int {
	l := []int{}
	for v := low; v <= high; v++ {
		l = append(l, v)
	}
	return l
}

// only is a list of numbers; of none it isn't nil.
func only(l ...int) []int {
	return append([]int{}, l...)
}

// times is so many domains, each like one.
func times(n int, d dom.Dom) list {
	var l list
	for range n {
		l = append(l, dom.Dom{Vals: slices.Clone(d.Vals), Live: d.Live})
	}
	return l
}

// product is the constraint of three variables.
func product(x, y, z int) api.Con {
	return api.Con{Kind: api.Product, Vars: []int{x, y, z}}
}

// copied is the same domains, with memory of their own.
func copied(l list) list {
	if l == nil {
		return nil
	}
	c := make(list, len(l))
	for i, d := range l {
		c[i] = dom.Dom{Vals: slices.Clone(d.Vals), Live: d.Live}
	}
	return c
}

// copiedCon is the same constraint, with memory of its own.
func copiedCon(c api.Con) api.Con {
	c.Vars, c.Coefs, c.Nums = slices.Clone(c.Vars), slices.Clone(c.Coefs), slices.Clone(c.Nums)
	return c
}

// values tells what is left of domains.
func values(l list) [][]int {
	all := [][]int{}
	for _, d := range l {
		all = append(all, left(d))
	}
	return all
}

// short tells a thing as some words, however great it is.
func short(x any) string {
	s := fmt.Sprint(x)
	return s[:min(len(s), 400)]
}

// step looks what a step leaves, and that it changes nothing else.
func step(t *testing.T, c api.Con, l list, want [][]int) {
	t.Helper()
	con, was := copiedCon(c), copied(l)
	got, e := Step(c, l)
	if e != api.OK || len(got) != len(l) {
		t.Errorf("Step of %s, %s: %d domains, error %d", short(c), short(l), len(got), e)
		return
	}
	for i, d := range got {
		if !slices.Equal(d.Vals, l[i].Vals) || !dom.May(d) {
			t.Errorf("Step of %s, %s: of %d %s", short(c), short(l), i, short(d))
		}
	}
	if !reflect.DeepEqual(values(got), want) {
		t.Errorf("Step of %s, %s (left %s): leaves %s, not %s", short(c), short(l), short(values(l)), short(values(got)), short(want))
	}
	if !reflect.DeepEqual(c, con) || !reflect.DeepEqual(l, was) {
		t.Errorf("Step of %s, %s: they were %s, %s", short(c), short(l), short(con), short(was))
	}
}

// leaves looks what a step leaves of three domains, where the first one times the second one is the third one: in this
// order, with the first two the other way round, and among other domains in other orders, all of which stays.
func leaves(t *testing.T, x, y, z dom.Dom, want ...[]int) {
	t.Helper()
	step(t, product(0, 1, 2), list{x, y, z}, want)
	step(t, product(1, 0, 2), list{x, y, z}, want)
	d := dice(1)
	for range 6 {
		n := 3 + d.upTo(5)
		places := d.order(n)
		var wider list
		for range n {
			wider = append(wider, thrownDom(&d, 3))
		}
		wants := values(wider)
		for i, one := range (list{x, y, z}) {
			wider[places[i]], wants[places[i]] = one, want[i]
		}
		step(t, product(places[0], places[1], places[2]), wider, wants)
		step(t, product(places[1], places[0], places[2]), wider, wants)
	}
}

// alike looks whether a step leaves what the chapter's words say.
func alike(t *testing.T, c api.Con, l list) {
	t.Helper()
	want, right := plainStep(c, l)
	if !right {
		t.Errorf("no step of %s, %s", short(c), short(l))
		return
	}
	step(t, c, l, want)
}

// refused looks whether there is no step.
func refused(t *testing.T, c api.Con, l list) {
	t.Helper()
	con, was := copiedCon(c), copied(l)
	if got, e := Step(c, l); e != api.ErrArg || got != nil {
		t.Errorf("Step of %s, %s: %s, error %d", short(c), short(l), short(got), e)
	}
	if !reflect.DeepEqual(c, con) || !reflect.DeepEqual(l, was) {
		t.Errorf("Step of %s, %s: they were %s, %s", short(c), short(l), short(con), short(was))
	}
}

// P13.1: the chapter's example.
func TestExample(t *testing.T) {
	leaves(t, run(2, 3), run(0, 2), of(4), only(2), only(2), only(4))
}

// P13.1: all, some, and none is left of each of the three variables.
func TestProduct(t *testing.T) {
	none := only()
	leaves(t, of(2), of(3), of(6), only(2), only(3), only(6))
	leaves(t, of(2), of(3), of(5), none, none, none)
	leaves(t, run(1, 3), run(1, 3), run(1, 9), only(1, 2, 3), only(1, 2, 3), only(1, 2, 3, 4, 6, 9))
	leaves(t, run(1, 3), run(1, 3), of(1, 2, 3, 4, 6, 9), only(1, 2, 3), only(1, 2, 3), only(1, 2, 3, 4, 6, 9))
	leaves(t, run(1, 3), run(1, 3), of(5, 7, 8), none, none, none)
	leaves(t, run(1, 3), run(1, 3), of(9), only(3), only(3), only(9))
	leaves(t, run(1, 3), run(1, 3), of(2), only(1, 2), only(1, 2), only(2))
	leaves(t, run(1, 3), run(1, 3), of(4, 5), only(2), only(2), only(4))
	// All of the first one, some of the second one; and of the third one all, or some.
	leaves(t, of(2, 3), run(1, 9), of(12, 18), only(2, 3), only(4, 6, 9), only(12, 18))
	leaves(t, of(2, 3), run(1, 9), run(12, 18), only(2, 3), only(4, 5, 6, 7, 8, 9), only(12, 14, 15, 16, 18))
	leaves(t, of(2, 3), of(6), run(0, 20), only(2, 3), only(6), only(12, 18))
	// Some of the first two, all of the third one.
	leaves(t, run(2, 5), run(2, 5), of(6, 20), only(2, 3, 4, 5), only(2, 3, 4, 5), only(6, 20))
	leaves(t, run(2, 5), run(2, 7), of(6, 14), only(2, 3), only(2, 3, 7), only(6, 14))
	leaves(t, run(2, 9), run(2, 9), of(49, 81), only(7, 9), only(7, 9), only(49, 81))
	leaves(t, run(2, 9), run(2, 9), of(35, 77), only(5, 7), only(5, 7), only(35))
	leaves(t, run(1, 40), run(1, 40), of(37, 41), only(1, 37), only(1, 37), only(37))
}

// P13.1: values below 0, 0, and above it, on either side.
func TestSigns(t *testing.T) {
	leaves(t, of(-2), of(3), of(-6, 6), only(-2), only(3), only(-6))
	leaves(t, of(-2), of(-3), of(-6, 6), only(-2), only(-3), only(6))
	leaves(t, of(2), of(-3), of(-6, -5, 5, 6), only(2), only(-3), only(-6))
	leaves(t, of(-2, 2), of(-3, 3), of(6), only(-2, 2), only(-3, 3), only(6))
	leaves(t, of(-2, 2), of(3), of(6), only(2), only(3), only(6))
	leaves(t, of(-2, 2), of(3), of(-6), only(-2), only(3), only(-6))
	leaves(t, run(-3, -1), run(1, 3), run(0, 9), only(), only(), only())
	leaves(t, run(-3, -1), run(1, 3), run(-9, 0), only(-3, -2, -1), only(1, 2, 3), only(-9, -6, -4, -3, -2, -1))
	leaves(t, run(-3, -1), run(-3, -1), run(-9, 0), only(), only(), only())
	leaves(t, run(-3, 3), run(-3, 3), of(-9, 4), only(-3, -2, 2, 3), only(-3, -2, 2, 3), only(-9, 4))
	leaves(t, run(-3, 3), run(-1, 3), of(-9, 4, 7), only(-3, 2), only(2, 3), only(-9, 4))
	leaves(t, run(-3, 3), run(-3, 3), run(-3, -3), only(-3, -1, 1, 3), only(-3, -1, 1, 3), only(-3))
	leaves(t, run(-3, 3), run(0, 3), of(-2, 1), only(-2, -1, 1), only(1, 2), only(-2, 1))
	// A rest is not to be lost sight of, on whichever side of 0.
	leaves(t, of(-3, 3), run(-3, 3), of(-8, -7, 7, 8), only(), only(), only())
	leaves(t, of(2), run(-5, 5), run(-9, -7), only(2), only(-4), only(-8))
	leaves(t, of(-2), run(-5, 5), run(-9, -7), only(-2), only(4), only(-8))
	leaves(t, of(-2), run(-5, 5), run(-1, 1), only(-2), only(0), only(0))
	leaves(t, of(-7, 7), run(-1, 1), of(-7, -6, 3, 7), only(-7, 7), only(-1, 1), only(-7, 7))
}

// P13.1: 0 times whatever is left is 0.
func TestZero(t *testing.T) {
	leaves(t, of(0), run(-3, 3), run(-3, 3), only(0), only(-3, -2, -1, 0, 1, 2, 3), only(0))
	leaves(t, of(0), run(-3, 3), of(1, 2), only(), only(), only())
	leaves(t, of(0), of(-7, 9), of(-9, 0), only(0), only(-7, 9), only(0))
	leaves(t, of(0), of(-7, 9), of(-9, 7), only(), only(), only())
	leaves(t, of(0, 1), of(5, 7), of(0, 5), only(0, 1), only(5, 7), only(0, 5))
	leaves(t, of(0, 1), of(5, 7), of(5), only(1), only(5), only(5))
	leaves(t, of(0, 1), of(5, 7), of(0), only(0), only(5, 7), only(0))
	leaves(t, of(0, 1), of(0, 7), of(0), only(0, 1), only(0, 7), only(0))
	leaves(t, of(0, 1), of(0, 7), of(0, 8), only(0, 1), only(0, 7), only(0))
	leaves(t, of(0, 1), of(0, 7), of(7), only(1), only(7), only(7))
	leaves(t, of(1, 2), of(3, 4), of(0), only(), only(), only())
	leaves(t, of(1, 2), of(3, 4), of(0, 3), only(1), only(3), only(3))
	leaves(t, of(0), of(0), of(0), only(0), only(0), only(0))
	leaves(t, of(0), of(0), of(1), only(), only(), only())
	leaves(t, of(0), of(-most, most), of(-most, 0, most), only(0), only(-most, most), only(0))
	leaves(t, run(-31, 32), run(-31, 32), of(0), numbers(-31, 32), numbers(-31, 32), only(0))
	leaves(t, run(1, 64), run(-63, 0), of(0), numbers(1, 64), only(0), only(0))
	// 0 is a value of one, but isn't left.
	leaves(t, some(0, 3, 1, 2), run(5, 8), of(0, 14), only(2), only(7), only(14))
	leaves(t, some(0, 3, 1, 2), run(5, 8), of(0), only(), only(), only())
	leaves(t, of(0, 2), run(5, 8), some(0, 14, 14), only(2), only(7), only(14))
	leaves(t, of(0, 2), some(0, 8, 0, 7), some(0, 14, 14), only(2), only(7), only(14))
}

// P13.1: the least and the greatest values, whose products may be beyond all values.
func TestGreatest(t *testing.T) {
	ends := of(-most, most)
	leaves(t, ends, ends, ends, only(), only(), only())
	leaves(t, ends, ends, of(-most, 0, most), only(), only(), only())
	leaves(t, ends, ends, run(-31, 32), only(), only(), only())
	leaves(t, ends, of(-1, 1), ends, only(-most, most), only(-1, 1), only(-most, most))
	leaves(t, of(most), of(-1, 1), ends, only(most), only(-1, 1), only(-most, most))
	leaves(t, of(most), of(-1, 2), ends, only(most), only(-1), only(-most))
	leaves(t, of(-most), of(-1, 2), ends, only(-most), only(-1), only(most))
	leaves(t, of(-most, 0, most), ends, of(-most, 0, most), only(0), only(-most, most), only(0))
	leaves(t, of(1023, 1024, 1025), of(1023, 1024, 1025), of(most-2, most), only(1024), only(1024), only(most))
	leaves(t, of(1023, 1024, 1025), of(1023, 1024, 1025), of(most-1, most), only(1023, 1024, 1025), only(1023, 1024, 1025), only(most-1, most))
	leaves(t, of(1023, 1024, 1025), of(1023, 1024, 1025), of(most-1), only(1023, 1025), only(1023, 1025), only(most-1))
	leaves(t, of(-1024), of(1024), ends, only(-1024), only(1024), only(-most))
	leaves(t, of(-1024), of(-1024), ends, only(-1024), only(-1024), only(most))
	leaves(t, of(-1048576, -524288, 524288, 1048576), run(-2, 2), ends, only(-1048576, -524288, 524288, 1048576), only(-2, -1, 1, 2), only(-most, most))
	leaves(t, of(most-1), of(most-1), of(1), only(), only(), only())
	// Of 2^40, and of 2^32, what stands in the last 32 bits, or 8, or 16, is 0.
	leaves(t, of(most), of(most), of(0), only(), only(), only())
	leaves(t, of(1<<16), of(1<<16), of(0), only(), only(), only())
	leaves(t, of(1<<16), of(1<<16, 1<<16+1), of(0, 1<<16), only(), only(), only())
	leaves(t, of(1<<16+1), of(1<<16+1), of(1, 1<<17+1), only(), only(), only())
	leaves(t, of(1<<16-1), of(1<<16+1), of(-1, 1), only(), only(), only())
	leaves(t, of(256), of(256), of(0, 1<<16), only(256), only(256), only(1<<16))
	leaves(t, of(16), of(16), of(0, 256), only(16), only(16), only(256))
}

// P13.1: values that are not left do for nothing, and gaps are gaps.
func TestLeft(t *testing.T) {
	leaves(t, some(0, 9, 2, 5), some(0, 9, 3, 7), some(0, 40, 6, 14, 15), only(2, 5), only(3, 7), only(6, 14, 15))
	leaves(t, some(0, 9, 2, 5), some(0, 9, 3, 7), some(0, 40, 6, 21, 35), only(2, 5), only(3, 7), only(6, 35))
	leaves(t, some(0, 9, 2, 5), some(0, 9, 3, 7), some(0, 40, 7, 8, 34), only(), only(), only())
	leaves(t, some(0, 9, 2, 5), run(0, 9), of(12), only(2), only(6), only(12))
	leaves(t, run(0, 9), some(0, 9, 2, 5), of(12), only(6), only(2), only(12))
	leaves(t, run(0, 9), run(0, 9), some(0, 40, 7), only(1, 7), only(1, 7), only(7))
	leaves(t, some(-9, 9, -4, 6), some(-9, 9, -3, 2), some(-30, 30, -18, -8, 12), only(-4, 6), only(-3, 2), only(-18, -8, 12))
	leaves(t, some(-9, 9, -4, 6), some(-9, 9, -3), some(-30, 30, -18, -8, 12), only(-4, 6), only(-3), only(-18, 12))
	leaves(t, of(3, 50, 700), of(-40, 8, 90), of(-28000, 400, 4500, 9000), only(50, 700), only(-40, 8, 90), only(-28000, 400, 4500))
}

// P13.1: a value that is kept for the sake of the first ones alone that are tried, of the last ones alone, and of such
// in the middle.
func TestOne(t *testing.T) {
	left, vals := numbers(5, 68), run(5, 68)
	for _, v := range left {
		leaves(t, of(100), vals, of(100*v), only(100), only(v), only(100*v))
		leaves(t, of(101, 211), vals, of(101*v), only(101), only(v), only(101*v))
		leaves(t, of(101, 211), vals, of(211*v), only(211), only(v), only(211*v))
		leaves(t, of(-211, 0, 101), vals, of(-211*v, 101*v), only(-211, 101), only(v), only(-211*v, 101*v))
		// Of just two places, the first one and another one, or that and the last one, something is left.
		pair, last := some(5, 68, 5, v), some(5, 68, v, 68)
		leaves(t, of(101), pair, of(101*v), only(101), only(v), only(101*v))
		leaves(t, of(101), last, of(101*v), only(101), only(v), only(101*v))
	}
	primes := []int{2, 3, 5, 7, 11, 13, 17, 19, 23, 29, 31, 37, 41, 43, 47, 53, 59, 61, 67, 71, 73, 79, 83, 89, 97, 101, 103, 107, 109, 113, 127, 131}
	for _, p := range []int{2, 3, 59, 61, 127, 131} {
		for _, q := range []int{2, 5, 53, 113, 131} {
			both := only(p, q)
			slices.Sort(both)
			both = slices.Compact(both)
			leaves(t, of(primes...), of(primes...), of(p*q), both, both, only(p*q))
		}
	}
	// Each product is of one pair alone.
	wide, whole := numbers(1, 64), []int{}
	for _, v := range wide {
		whole = append(whole, 1000*v)
	}
	leaves(t, run(1, 64), of(1000), of(whole...), wide, only(1000), whole)
}

// P13.1: variables in all orders, each with a domain of its own, so that no two can stand for each other.
func TestOrders(t *testing.T) {
	l := list{run(0, 3), run(-3, 5), some(-9, 9, -8, 1, 4, 6), of(-20, 7, 30), run(2, 6)}
	for x := range l {
		for y := range l {
			for z := range l {
				if x != y && y != z && x != z {
					alike(t, product(x, y, z), l)
				}
			}
		}
	}
	small := list{of(2), of(3), of(6)}
	for _, vars := range [][]int{{0, 1, 2}, {1, 0, 2}} {
		step(t, api.Con{Kind: api.Product, Vars: vars}, small, [][]int{only(2), only(3), only(6)})
	}
	for _, vars := range [][]int{{0, 2, 1}, {1, 2, 0}, {2, 0, 1}, {2, 1, 0}} {
		step(t, api.Con{Kind: api.Product, Vars: vars}, small, [][]int{only(), only(), only()})
	}
}

// P13.1: of domains of which one has nothing left: nothing of any of the constraint's, if it is one of these, else all
// that is left of products.
func TestWiped(t *testing.T) {
	for _, full := range []dom.Dom{run(0, 3), run(-3, 3), of(0), of(1), run(1, 64)} {
		for _, empty := range []dom.Dom{some(0, 3), some(-31, 32), {}, {Vals: []int{}}, some(0, 0)} {
			leaves(t, empty, full, full, only(), only(), only())
			leaves(t, full, empty, full, only(), only(), only())
			leaves(t, full, full, empty, only(), only(), only())
			leaves(t, empty, empty, full, only(), only(), only())
			leaves(t, full, empty, empty, only(), only(), only())
			leaves(t, empty, full, empty, only(), only(), only())
			leaves(t, empty, empty, empty, only(), only(), only())
			// The third one has 0, and just one of the first two is empty.
			leaves(t, of(0), empty, of(0), only(), only(), only())
			leaves(t, empty, of(0), of(0), only(), only(), only())
			leaves(t, of(0), of(0), empty, only(), only(), only())
			// Nothing is left of one that the constraint doesn't name.
			step(t, product(3, 0, 2), list{of(2, 3), empty, of(10), run(4, 7)}, [][]int{only(2), only(), only(10), only(5)})
			step(t, product(3, 0, 1), list{of(2, 3), of(10), empty, run(4, 7)}, [][]int{only(2), only(10), only(), only(5)})
			step(t, product(1, 2, 3), list{empty, of(2), of(3), of(7)}, [][]int{only(), only(), only(), only()})
			// The others stay, though nothing is left of the constraint's own.
			step(t, product(3, 0, 2), list{empty, run(0, 9), of(4), of(5)}, [][]int{only(), numbers(0, 9), only(), only()})
		}
	}
}

// P13.1: a step is asked of what was left ahead of it: whichever variable is first, it knows nothing of what the others
// lose; and of what it leaves all stays.
func TestAhead(t *testing.T) {
	leaves(t, of(2, 3), of(5, 7), of(10, 11), only(2), only(5), only(10))
	leaves(t, of(2, 3), of(5, 7), of(10, 21), only(2, 3), only(5, 7), only(10, 21))
	leaves(t, of(2, 3, 4), of(3, 5), of(12, 13), only(4), only(3), only(12))
	d := dice(3)
	for range 3000 {
		c, l := thrown(&d, 3+d.upTo(4), 40)
		got, e := Step(c, l)
		if e != api.OK {
			t.Errorf("Step of %s, %s: error %d", short(c), short(l), e)
			continue
		}
		step(t, c, got, values(got))
	}
}

// P13.1: all small domains.
func TestPlainSmall(t *testing.T) {
	sets := list{}
	for live := range uint64(32) {
		sets = append(sets, dom.Dom{Vals: numbers(-2, 2), Live: live})
	}
	for _, x := range sets {
		for _, y := range sets {
			for _, z := range sets {
				alike(t, product(0, 1, 2), list{x, y, {Vals: []int{-4, -2, 0, 1, 2}, Live: z.Live}})
			}
		}
	}
}

// P13.1: domains of as many values as may be.
func TestMost(t *testing.T) {
	for _, low := range []int{-most, -4000, -64, -63, -40, -31, -8, -1, 0, 1, 2, 900, most - 63} {
		for _, other := range []int{-64, -33, -31, 0, 1, 3} {
			for _, third := range []int{-most, -3000, -63, -31, 0, 1, 100, 2700, most - 63} {
				alike(t, product(2, 0, 1), list{run(low, low+63), run(third, third+63), run(other, other+63)})
				alike(t, product(0, 2, 1), list{run(low, low+63), run(third, third+63), run(other, other+63)})
			}
		}
	}
	d := dice(4)
	for range 300 {
		var l list
		for range 3 {
			one := run(0, 63)
			for k := range one.Vals {
				one.Vals[k] = k*(1+k%3) - d.upTo(2)
			}
			slices.Sort(one.Vals)
			one.Vals = slices.Compact(one.Vals)
			one.Live = (uint64(d.upTo(1<<30))<<34 | uint64(d.upTo(1<<30))<<4) & (uint64(1)<<len(one.Vals) - 1)
			l = append(l, one)
		}
		alike(t, product(0, 1, 2), l)
		alike(t, product(2, 1, 0), l)
	}
}

// P13.1: values at the last places, of domains that have as many as may be.
func TestLastPlaces(t *testing.T) {
	d := dom.Dom{Vals: numbers(-63, 0), Live: 1<<63 | 1<<62}
	leaves(t, d, of(7, 8), of(-8), only(-1), only(8), only(-8))
	leaves(t, d, of(7, 8), of(0), only(0), only(7, 8), only(0))
	leaves(t, of(1, 2), of(-1, 2), d, only(1), only(-1), only(-1))
	leaves(t, run(1, 64), of(2), of(128, 129), only(64), only(2), only(128))
	leaves(t, run(1, 64), of(2), run(3, 66), numbers(2, 33), only(2), slices.DeleteFunc(numbers(4, 66), func(v int) bool { return v%2 != 0 }))
}

// P13.1: thrown constraints and domains, some of which may not be, as the chapter's words have it.
func TestPlainThrown(t *testing.T) {
	d := dice(5)
	told := map[string]int{}
	for range 12000 {
		c, l := thrown(&d, 3+d.upTo(6), 60)
		switch d.upTo(16) {
		case 0:
			l = l[:d.upTo(len(l))]
		case 1:
			l[d.upTo(len(l))].Live = 1 << d.upTo(64)
		case 2:
			c.Kind = d.upTo(9) - 1
		case 3:
			c.Vars = c.Vars[:len(c.Vars)-d.upTo(2)]
			c.Rel = d.of(0, 0, 0, 1, -1)
		}
		want, right := plainStep(c, l)
		if !right {
			refused(t, c, l)
			told["none"]++
			continue
		}
		step(t, c, l, want)
		for at, i := range c.Vars {
			switch {
			case len(left(l[i])) == 0:
				told[fmt.Sprint("empty ", at)]++
			case len(want[i]) == len(left(l[i])):
				told[fmt.Sprint("all ", at)]++
			case len(want[i]) == 0:
				told[fmt.Sprint("wiped ", at)]++
			default:
				told[fmt.Sprint("some ", at)]++
			}
		}
	}
	for _, s := range []string{"none", "empty 0", "empty 1", "empty 2", "all 0", "all 1", "all 2", "wiped 0", "wiped 1", "wiped 2", "some 0", "some 1", "some 2"} {
		if told[s] < 100 {
			t.Errorf("too few of %s: %d", s, told[s])
		}
	}
}

// P13.1: constraints that need more variables than there are domains, and just as many.
func TestStepVars(t *testing.T) {
	c, l := product(0, 1, 2), times(3, run(0, 1))
	refused(t, c, nil)
	refused(t, c, list{})
	refused(t, c, l[:1])
	refused(t, c, l[:2])
	step(t, c, l, values(l))
	for place := 2; place < 22; place++ {
		for at := range 3 {
			one := product(0, 1, 2)
			one.Vars = slices.Insert([]int{0, 1}, at, place)
			refused(t, one, nil)
			refused(t, one, times(place, run(0, 1)))
			for more := 1; more < 4; more++ {
				l := times(place+more, run(0, 1))
				l[place] = of(1)
				want := values(l)
				if at == 2 {
					want[0], want[1] = only(1), only(1)
				}
				step(t, one, l, want)
			}
		}
	}
}

// P13.1: constraints that may not be, or are of another kind.
func TestStepCons(t *testing.T) {
	l := times(12, run(0, 3))
	good := product(0, 1, 2)
	step(t, good, l, append([][]int{only(0, 1, 2, 3), only(0, 1, 2, 3), only(0, 1, 2, 3)}, values(l[3:])...))
	for _, c := range []api.Con{
		{},
		{Kind: api.Product},
		{Kind: api.Linear, Vars: []int{0, 1, 2}, Coefs: []int{1, 1, 1}},
		{Kind: api.Iff, Vars: []int{0, 1, 2}, Coefs: []int{1, 1}},
		{Kind: api.Element, Vars: []int{0, 1}, Nums: []int{1, 2}},
		{Kind: api.Differ, Vars: []int{0, 1, 2}},
		{Kind: api.Table, Vars: []int{0, 1, 2}, Nums: []int{1, 1, 1}},
		{Kind: api.Table, Vars: []int{0, 1, 2}},
		{Vars: []int{0, 1, 2}},
	} {
		refused(t, c, l)
		refused(t, c, nil)
	}
	for i, spoil := range []func(c *api.Con){
		func(c *api.Con) { c.Kind = 0 },
		func(c *api.Con) { c.Kind = -1 },
		func(c *api.Con) { c.Kind = 7 },
		func(c *api.Con) { c.Kind = api.Linear },
		func(c *api.Con) { c.Kind = api.Iff },
		func(c *api.Con) { c.Kind = api.Element },
		func(c *api.Con) { c.Kind = api.Differ },
		func(c *api.Con) { c.Kind = api.Table },
		func(c *api.Con) { c.Kind = -api.Product },
		func(c *api.Con) { c.Kind = math.MinInt },
		func(c *api.Con) { c.Kind = math.MaxInt },
		func(c *api.Con) { c.Kind += 1 << 32 },
		func(c *api.Con) { c.Kind += 1 << 8 },
		func(c *api.Con) { c.Vars = nil },
		func(c *api.Con) { c.Vars = []int{} },
		func(c *api.Con) { c.Vars = c.Vars[:1] },
		func(c *api.Con) { c.Vars = c.Vars[1:] },
		func(c *api.Con) { c.Vars = append(c.Vars, 9) },
		func(c *api.Con) { c.Vars = append(c.Vars, 9, 8, 7) },
		func(c *api.Con) { c.Vars[1] = c.Vars[0] },
		func(c *api.Con) { c.Vars[2] = c.Vars[0] },
		func(c *api.Con) { c.Vars[1] = c.Vars[2] },
		func(c *api.Con) { c.Vars = []int{3, 3, 3} },
		func(c *api.Con) { c.Vars[0] = -1 },
		func(c *api.Con) { c.Vars[1] = -1 },
		func(c *api.Con) { c.Vars[2] = -1 },
		func(c *api.Con) { c.Vars[0] = 12 },
		func(c *api.Con) { c.Vars[1] = 12 },
		func(c *api.Con) { c.Vars[2] = 12 },
		func(c *api.Con) { c.Vars[1] = math.MinInt },
		func(c *api.Con) { c.Vars[2] = math.MaxInt },
		func(c *api.Con) { c.Coefs = []int{0} },
		func(c *api.Con) { c.Coefs = []int{1, 1, 1} },
		func(c *api.Con) { c.Nums = []int{0} },
		func(c *api.Con) { c.Nums = []int{1, 1, 1} },
		func(c *api.Con) { c.Rel = 1 },
		func(c *api.Con) { c.Rel = -1 },
		func(c *api.Con) { c.Rel = 5 },
		func(c *api.Con) { c.Rel = math.MinInt },
		func(c *api.Con) { c.Const = 1 },
		func(c *api.Con) { c.Const = -1 },
		func(c *api.Con) { c.Const = math.MaxInt },
	} {
		c := copiedCon(good)
		spoil(&c)
		if _, e := Step(c, l); e != api.ErrArg {
			t.Errorf("fault %d: error %d", i, e)
		}
		refused(t, c, l)
		refused(t, c, nil)
		refused(t, c, times(12, dom.Dom{}))
	}
}

// wrongs are domains that may not be, each for one reason.
func wrongs() list {
	return list{
		{Vals: []int{2, 1}, Live: 3}, {Vals: []int{1, 1}, Live: 1}, {Vals: []int{1, 3, 2}}, {Vals: []int{0, 1, 1}, Live: 3},
		{Vals: []int{most + 1}, Live: 1}, {Vals: []int{-most - 1}, Live: 1}, {Vals: []int{0, most + 1}, Live: 1}, {Vals: []int{-most - 1, 0}},
		{Vals: []int{math.MinInt}, Live: 1}, {Vals: []int{math.MaxInt}, Live: 1}, {Vals: []int{0, math.MaxInt, math.MinInt}, Live: 7},
		{Live: 1}, {Vals: []int{}, Live: 1}, {Live: math.MaxUint64}, {Vals: []int{0, 1}, Live: 4}, {Vals: []int{0, 1}, Live: 7},
		{Vals: []int{0, 1}, Live: 1 << 63}, {Vals: numbers(0, 62), Live: math.MaxUint64},
		{Vals: numbers(0, 64), Live: math.MaxUint64}, {Vals: numbers(0, 64)}, {Vals: numbers(-500, 500), Live: 1},
	}
}

// P13.1: domains that may not be, of each variable of the constraint, and of others.
func TestStepDoms(t *testing.T) {
	c := product(3, 1, 4)
	for _, wrong := range wrongs() {
		for at := range 6 {
			for _, other := range []dom.Dom{of(0, 1), of(0), some(0, 1), {}} {
				l := times(6, other)
				l[at] = wrong
				refused(t, c, l)
				refused(t, api.Con{Kind: api.Differ, Vars: []int{0, 1}}, l)
				refused(t, product(3, 1, 6), l)
			}
		}
	}
	refused(t, c, times(6, wrongs()[0]))
	step(t, c, times(6, of(0, 1)), slices.Repeat([][]int{only(0, 1)}, 6))
}

// within tells whether all numbers of each list are of the other's, too.
func within(a, b [][]int) bool {
	for i, l := range a {
		for _, v := range l {
			if !slices.Contains(b[i], v) {
				return false
			}
		}
	}
	return len(a) == len(b)
}

// rows tells all rows of values, one of each list.
func rows(own [][]int) [][]int {
	l := [][]int{{}}
	for _, values := range own {
		var longer [][]int
		for _, row := range l {
			for _, v := range values {
				longer = append(longer, append(slices.Clone(row), v))
			}
		}
		l = longer
	}
	return l
}

// P13.2: no row that holds, and whose values are left, loses one; and each value that is kept stands in such a row.
func TestRows(t *testing.T) {
	d := dice(13)
	held, lost := 0, 0
	for range 9000 {
		c, l := thrown(&d, 3+d.upTo(4), 200)
		got, e := Step(c, l)
		if e != api.OK {
			t.Errorf("Step of %s, %s: error %d", short(c), short(l), e)
			continue
		}
		var own, kept, want [][]int
		count := 1
		for _, i := range c.Vars {
			own, kept, want = append(own, left(l[i])), append(kept, left(got[i])), append(want, only())
			count *= len(left(l[i]))
		}
		if count > 2000 {
			continue
		}
		whole := make([]int, len(l))
		for _, row := range rows(own) {
			for at, i := range c.Vars {
				whole[i] = row[at]
			}
			if !ground.Holds(c, whole) {
				continue
			}
			held++
			for at, v := range row {
				want[at] = append(want[at], v)
			}
		}
		for at := range want {
			slices.Sort(want[at])
			want[at] = slices.Compact(want[at])
		}
		if !reflect.DeepEqual(kept, want) {
			t.Errorf("Step of %s, %s: keeps %s, but rows that hold have %s", short(c), short(l), short(kept), short(want))
		}
		if !reflect.DeepEqual(own, kept) {
			lost++
		}
	}
	if held < 10000 || lost < 1500 {
		t.Errorf("%d rows hold, %d times less is left", held, lost)
	}
}

// P13.2: what a step leaves was left ahead of it; of less, less is left.
func TestLess(t *testing.T) {
	d := dice(17)
	fewer := 0
	for range 8000 {
		c, l := thrown(&d, 3+d.upTo(5), 80)
		more, e := Step(c, l)
		if e != api.OK || !within(values(more), values(l)) {
			t.Errorf("Step of %s, %s: %s, error %d", short(c), short(l), short(more), e)
		}
		less := copied(l)
		for range 1 + d.upTo(4) {
			one := &less[c.Vars[d.upTo(3)]]
			one.Live &= ^(1 << d.upTo(len(one.Vals)))
		}
		got, e := Step(c, less)
		if e != api.OK || !within(values(got), values(more)) {
			t.Errorf("Step of %s: of %s leaves %s, of %s %s", short(c), short(values(l)), short(values(more)), short(values(less)), short(values(got)))
		}
		if !reflect.DeepEqual(values(got), values(more)) {
			fewer++
		}
	}
	if fewer < 1500 {
		t.Errorf("%d times less was left of less", fewer)
	}
}

// P13.2: what is left of single values is all, just if the product holds of them; else it is none.
func TestSingles(t *testing.T) {
	d := dice(19)
	told := map[bool]int{}
	for range 12000 {
		c, l := thrown(&d, 3+d.upTo(5), 1<<30)
		row := make([]int, len(l))
		for i := range l {
			k := d.upTo(len(l[i].Vals))
			row[i], l[i].Live = l[i].Vals[k], 1<<k
		}
		x, y, z := c.Vars[0], c.Vars[1], c.Vars[2]
		if p := row[x] * row[y]; p >= -most && p <= most && d.upTo(2) == 0 {
			row[z], l[z] = p, of(p)
		}
		want := values(l)
		holds := ground.Holds(c, row)
		if !holds {
			for _, i := range c.Vars {
				want[i] = only()
			}
		}
		step(t, c, l, want)
		told[holds]++
	}
	if told[true] < 1000 || told[false] < 1000 {
		t.Errorf("%v", told)
	}
}

// P13.2: of all single values about 0, and at the ends.
func TestSinglesSmall(t *testing.T) {
	l := []int{-most, -1024, -4, -3, -2, -1, 0, 1, 2, 3, 4, 1024, most}
	for _, row := range rows([][]int{l, l, l}) {
		want := [][]int{only(row[0]), only(row[1]), only(row[2])}
		if !ground.Holds(product(0, 1, 2), row) {
			want = [][]int{only(), only(), only()}
		}
		step(t, product(0, 1, 2), list{of(row[0]), of(row[1]), of(row[2])}, want)
	}
}

// spoilt fills all memory that domains have with other things, to its last place.
func spoilt(l list) {
	for i := range l {
		vals := l[i].Vals[:cap(l[i].Vals)]
		for k := range vals {
			vals[k] = 777
		}
	}
	l = l[:cap(l)]
	for i := range l {
		l[i] = dom.Dom{Vals: []int{888}, Live: 9}
	}
}

// P13.1, R3: answers share no memory with an argument, nor with another answer, nor within themselves.
func TestShared(t *testing.T) {
	d := dice(29)
	for range 3000 {
		c, l := thrown(&d, 6, 30)
		for i := range l {
			// There is room behind the last value.
			l[i].Vals = append(make([]int, 0, len(l[i].Vals)+3), l[i].Vals...)
		}
		// Two variables may have their values in the same place.
		l[d.upTo(6)] = l[d.upTo(6)]
		l = append(make(list, 0, 12), l...)
		con, was := copiedCon(c), copied(l)
		first, _ := Step(c, l)
		second, _ := Step(c, l)
		kept := copied(first)
		if !reflect.DeepEqual(first, second) {
			t.Errorf("Step of %s, %s: another time %s, not %s", short(c), short(l), short(second), short(first))
		}
		spoilt(second)
		if !reflect.DeepEqual(first, kept) || !reflect.DeepEqual(l, was) || !reflect.DeepEqual(c, con) {
			t.Errorf("Step of %s, %s: shared with the answer of another call", short(con), short(was))
		}
		for i := range first {
			vals := first[i].Vals[:cap(first[i].Vals)]
			for k := range vals {
				vals[k] = 777
			}
			if !reflect.DeepEqual(first[i+1:], kept[i+1:]) {
				t.Errorf("Step of %s, %s: what %d has is shared", short(con), short(was), i)
			}
		}
		spoilt(first)
		if !reflect.DeepEqual(l, was) || !reflect.DeepEqual(c, con) {
			t.Errorf("Step of %s, %s: now they are %s, %s", short(con), short(was), short(c), short(l))
		}
		third, _ := Step(c, l)
		for i := range c.Vars {
			c.Vars[i] = 999
		}
		spoilt(l)
		if !reflect.DeepEqual(third, kept) {
			t.Errorf("Step of %s, %s: the answer became %s", short(con), short(was), short(third))
		}
	}
}

// R6: no values are no values, whether there is a list of them or not.
func TestEmpty(t *testing.T) {
	c := product(1, 2, 3)
	c.Coefs, c.Nums = []int{}, []int{}
	for _, none := range []dom.Dom{{}, {Vals: []int{}}, {Vals: []int{1}[:0]}} {
		step(t, c, list{none, run(2, 3), run(2, 3), of(6)}, [][]int{only(), only(2, 3), only(2, 3), only(6)})
		step(t, c, list{run(0, 3), none, run(2, 3), of(6)}, [][]int{only(0, 1, 2, 3), only(), only(), only()})
		step(t, c, list{none, none, none, none}, [][]int{only(), only(), only(), only()})
	}
}

// R1: every call ends and none panics, of very many domains, and of numbers at the ends of int.
func TestGreat(t *testing.T) {
	many := times(1<<16, run(0, 3))
	last := product(1<<16-1, 0, 7)
	want := values(many)
	many[7] = of(9, 10)
	want[0], want[7], want[1<<16-1] = only(3), only(9), only(3)
	step(t, last, many, want)
	last.Vars[0] = 1 << 16
	refused(t, last, many)
	numbers := []int{math.MinInt, math.MaxInt, -1, 0, 1, 2, 3, most, 1 << 40}
	d := dice(31)
	for range 100000 {
		c := api.Con{Kind: d.of(2, 2, 2, 2, d.of(numbers...)), Rel: d.of(0, 0, 0, 0, 0, d.of(numbers...)), Const: d.of(0, 0, 0, 0, 0, d.of(numbers...))}
		for range d.of(3, 3, 3, 3, 2, 4) {
			c.Vars = append(c.Vars, d.of(0, 1, 2, 3, d.of(numbers...)))
		}
		for range d.of(0, 0, 0, 0, 0, 1) {
			c.Coefs = append(c.Coefs, d.of(numbers...))
		}
		var l list
		for range d.of(4, 4, 3, 2, 0) {
			var a dom.Dom
			for range d.upTo(4) {
				a.Vals = append(a.Vals, d.of(-2, -1, 0, 1, 2, 4, most, -most, d.of(numbers...)))
			}
			if d.upTo(5) > 0 {
				slices.Sort(a.Vals)
				a.Vals = slices.Compact(a.Vals)
			}
			a.Live = uint64(1)<<len(a.Vals) - 1
			if d.upTo(6) == 0 {
				a.Live = uint64(d.of(0, 1, 3, 7, 7, d.of(numbers...)))
			}
			l = append(l, a)
		}
		if want, right := plainStep(c, l); right {
			step(t, c, l, want)
		} else {
			refused(t, c, l)
		}
	}
}
