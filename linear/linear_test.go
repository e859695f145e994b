package linear

import (
	"fmt"
	"math"
	"reflect"
	"slices"
	"testing"

	"stratagem/api"
	"stratagem/dom"
	"stratagem/ground"
	"stratagem/sums"
)

// most is the greatest number.
const most = api.MostNum

// list is a short name of domains.
type list = []dom.Dom

// rels are all rels that there are.
var rels = [6]int{api.EQ, api.NE, api.LT, api.LE, api.GT, api.GE}

// of is a domain of values, all left.
func of(vals ...int) dom.Dom {
	return dom.Dom{Vals: vals, Live: uint64(1)<<len(vals) - 1}
}

// run is a domain of all values from low to high, all left.
func run(low, high int) dom.Dom {
	return of(numbers(low, high)...)
}

// some is a domain of all values from low to high, of which just some are left.
func some(low, high int, left ...int) dom.Dom {
	d := dom.Dom{Vals: numbers(low, high)}
	for _, v := range left {
		d.Live |= 1 << (v - low)
	}
	return d
}

// numbers are those from low to high.
func numbers(low, high int) []int {
	l := []int{}
	for v := low; v <= high; v++ {
		l = append(l, v)
	}
	return l
}

// only is a list of numbers; of none it isn't nil.
func only(l ...int) []int {
	return append([]int{}, l...)
}

// times is so many domains, each like one.
func times(n int, d dom.Dom) list {
	var l list
	for range n {
		l = append(l, dom.Dom{Vals: slices.Clone(d.Vals), Live: d.Live})
	}
	return l
}

// sum is a Linear constraint of the first variables.
func sum(coefs []int, rel, number int) api.Con {
	return api.Con{Kind: api.Linear, Vars: numbers(0, len(coefs)-1), Coefs: coefs, Rel: rel, Const: number}
}

// iff is an Iff constraint of the first variables.
func iff(coefs []int, rel, number int) api.Con {
	return api.Con{Kind: api.Iff, Vars: numbers(0, len(coefs)), Coefs: coefs, Rel: rel, Const: number}
}

// copied is the same domains, with memory of their own.
func copied(l list) list {
	if l == nil {
		return nil
	}
	c := make(list, len(l))
	for i, d := range l {
		c[i] = dom.Dom{Vals: slices.Clone(d.Vals), Live: d.Live}
	}
	return c
}

// copiedCon is the same constraint, with memory of its own.
func copiedCon(c api.Con) api.Con {
	c.Vars, c.Coefs, c.Nums = slices.Clone(c.Vars), slices.Clone(c.Coefs), slices.Clone(c.Nums)
	return c
}

// values tells what is left of domains.
func values(l list) [][]int {
	all := [][]int{}
	for _, d := range l {
		all = append(all, left(d))
	}
	return all
}

// short tells a thing as some words, however great it is.
func short(x any) string {
	s := fmt.Sprint(x)
	return s[:min(len(s), 400)]
}

// step looks what a step leaves, and that it changes nothing else.
func step(t *testing.T, c api.Con, l list, want [][]int) {
	t.Helper()
	con, was := copiedCon(c), copied(l)
	got, e := Step(c, l)
	if e != api.OK || len(got) != len(l) {
		t.Errorf("Step of %s, %s: %d domains, error %d", short(c), short(l), len(got), e)
		return
	}
	for i, d := range got {
		if !slices.Equal(d.Vals, l[i].Vals) || !dom.May(d) {
			t.Errorf("Step of %s, %s: of %d %s", short(c), short(l), i, short(d))
		}
	}
	if !reflect.DeepEqual(values(got), want) {
		t.Errorf("Step of %s, %s (left %s): leaves %s, not %s", short(c), short(l), short(values(l)), short(values(got)), short(want))
	}
	if !reflect.DeepEqual(c, con) || !reflect.DeepEqual(l, was) {
		t.Errorf("Step of %s, %s: they were %s, %s", short(c), short(l), short(con), short(was))
	}
}

// leaves looks what a step leaves of domains, with its variables where they are, and among others in other orders: all
// of these stays.
func leaves(t *testing.T, c api.Con, l list, want ...[]int) {
	t.Helper()
	step(t, c, l, want)
	d := dice(1)
	for range 6 {
		n := len(l) + d.upTo(5)
		places := d.order(n)
		var wider list
		for range n {
			wider = append(wider, thrownDom(&d, 3))
		}
		wants := values(wider)
		for i := range l {
			wider[places[i]], wants[places[i]] = l[i], want[i]
		}
		moved := c
		moved.Vars = nil
		for _, i := range c.Vars {
			moved.Vars = append(moved.Vars, places[i])
		}
		step(t, moved, wider, wants)
	}
}

// alike looks whether a step leaves what the chapter's words say.
func alike(t *testing.T, c api.Con, l list) {
	t.Helper()
	want, right := plainStep(c, l)
	if !right {
		t.Errorf("no step of %s, %s", short(c), short(l))
		return
	}
	step(t, c, l, want)
}

// refused looks whether there is no step.
func refused(t *testing.T, c api.Con, l list) {
	t.Helper()
	con, was := copiedCon(c), copied(l)
	if got, e := Step(c, l); e != api.ErrArg || got != nil {
		t.Errorf("Step of %s, %s: %s, error %d", short(c), short(l), short(got), e)
	}
	if !reflect.DeepEqual(c, con) || !reflect.DeepEqual(l, was) {
		t.Errorf("Step of %s, %s: they were %s, %s", short(c), short(l), short(con), short(was))
	}
}

// P12.1: the chapter's example.
func TestExample(t *testing.T) {
	leaves(t, sum([]int{1, 1}, api.EQ, 5), list{run(0, 3), run(0, 3)}, only(2, 3), only(2, 3))
}

// P12.1: Linear with each rel: all, some, and none is left.
func TestLinear(t *testing.T) {
	all, none := only(0, 1, 2, 3), only()
	for _, s := range []struct {
		rel, number int
		want        []int
	}{
		{api.EQ, -1, none}, {api.EQ, 0, only(0)}, {api.EQ, 1, only(0, 1)}, {api.EQ, 2, only(0, 1, 2)}, {api.EQ, 3, all},
		{api.EQ, 4, only(1, 2, 3)}, {api.EQ, 5, only(2, 3)}, {api.EQ, 6, only(3)}, {api.EQ, 7, none},
		{api.NE, -1, all}, {api.NE, 0, all}, {api.NE, 3, all}, {api.NE, 6, all}, {api.NE, 7, all},
		{api.LT, -1, none}, {api.LT, 0, none}, {api.LT, 1, only(0)}, {api.LT, 3, only(0, 1, 2)}, {api.LT, 4, all}, {api.LT, 6, all}, {api.LT, 7, all},
		{api.LE, -1, none}, {api.LE, 0, only(0)}, {api.LE, 1, only(0, 1)}, {api.LE, 2, only(0, 1, 2)}, {api.LE, 3, all}, {api.LE, 6, all},
		{api.GT, 7, none}, {api.GT, 6, none}, {api.GT, 5, only(3)}, {api.GT, 3, only(1, 2, 3)}, {api.GT, 2, all}, {api.GT, 0, all}, {api.GT, -1, all},
		{api.GE, 7, none}, {api.GE, 6, only(3)}, {api.GE, 5, only(2, 3)}, {api.GE, 4, only(1, 2, 3)}, {api.GE, 3, all}, {api.GE, 0, all},
	} {
		leaves(t, sum([]int{1, 1}, s.rel, s.number), list{run(0, 3), run(0, 3)}, s.want, s.want)
		// Each Coef the other way round, and each value.
		leaves(t, sum([]int{-1, -1}, s.rel, s.number), list{run(-3, 0), run(-3, 0)}, turned(s.want), turned(s.want))
		leaves(t, sum([]int{1, -1}, s.rel, s.number), list{run(0, 3), run(-3, 0)}, s.want, turned(s.want))
	}
}

// turned are numbers, each with the other sign, rising.
func turned(l []int) []int {
	r := []int{}
	for _, v := range slices.Backward(l) {
		r = append(r, -v)
	}
	return r
}

// P12.1: Linear of one variable leaves just those values of which it holds.
func TestLinearOne(t *testing.T) {
	x := list{run(-4, 4)}
	leaves(t, sum([]int{1}, api.EQ, 3), x, only(3))
	leaves(t, sum([]int{1}, api.EQ, 5), x, only())
	leaves(t, sum([]int{2}, api.EQ, 3), x, only())
	leaves(t, sum([]int{-2}, api.EQ, 6), x, only(-3))
	leaves(t, sum([]int{3}, api.NE, -6), x, only(-4, -3, -1, 0, 1, 2, 3, 4))
	leaves(t, sum([]int{3}, api.NE, -5), x, numbers(-4, 4))
}

// P12.1: NE takes a value away just if the others have one sum, and that is the one that makes Const.
func TestLinearUnlike(t *testing.T) {
	leaves(t, sum([]int{1, 1}, api.NE, 5), list{of(2), run(0, 5)}, only(2), only(0, 1, 2, 4, 5))
	leaves(t, sum([]int{1, 1}, api.NE, 5), list{run(0, 5), of(2)}, only(0, 1, 2, 4, 5), only(2))
	leaves(t, sum([]int{1, 1}, api.NE, 5), list{of(2), of(3)}, only(), only())
	leaves(t, sum([]int{1, 1}, api.NE, 5), list{of(2, 3), of(2, 3)}, only(2, 3), only(2, 3))
	leaves(t, sum([]int{1, -1}, api.NE, 0), list{of(4), of(4, 5)}, only(4), only(5))
	leaves(t, sum([]int{1, -1, 1}, api.NE, 0), list{of(4), of(4, 5), of(1)}, only(4), only(4), only(1))
	leaves(t, sum([]int{1, -1, 1}, api.NE, 0), list{of(4), of(4, 5), of(0, 1)}, only(4), only(4, 5), only(0, 1))
	// Both ends of what x and y make are apart from Const, or one is it.
	leaves(t, sum([]int{1, 1}, api.NE, 4), list{of(2), of(2, 9)}, only(2), only(9))
	leaves(t, sum([]int{1, 1}, api.NE, 11), list{of(2), of(2, 9)}, only(2), only(2))
	leaves(t, sum([]int{1, 1}, api.NE, 7), list{of(2), of(2, 5, 9)}, only(2), only(2, 9))
}

// P12.1: Linear of several variables, with Coefs below 0 and above, and values below 0.
func TestLinearCoefs(t *testing.T) {
	leaves(t, sum([]int{2, -3}, api.LE, -5), list{run(0, 3), run(0, 3)}, only(0, 1, 2), only(2, 3))
	leaves(t, sum([]int{2, -3}, api.GE, 2), list{run(0, 3), run(0, 3)}, only(1, 2, 3), only(0, 1))
	leaves(t, sum([]int{2, -3}, api.LT, -5), list{run(0, 3), run(0, 3)}, only(0, 1), only(2, 3))
	leaves(t, sum([]int{2, -3}, api.GT, 3), list{run(0, 3), run(0, 3)}, only(2, 3), only(0))
	leaves(t, sum([]int{2, -3}, api.EQ, -7), list{run(0, 3), run(0, 3)}, only(0, 1), only(3))
	leaves(t, sum([]int{-1, -1}, api.GE, -1), list{run(0, 3), run(0, 3)}, only(0, 1), only(0, 1))
	leaves(t, sum([]int{1, -2, 3}, api.EQ, 13), list{run(-2, 2), run(-2, 2), run(-2, 2)}, only(), only(), only())
	leaves(t, sum([]int{1, -2, 3}, api.EQ, 12), list{run(-2, 2), run(-2, 2), run(-2, 2)}, only(2), only(-2), only(2))
	leaves(t, sum([]int{1, -2, 3}, api.EQ, 11), list{run(-2, 2), run(-2, 2), run(-2, 2)}, only(1, 2), only(-2), only(2))
	leaves(t, sum([]int{1, -2, 3}, api.EQ, 9), list{run(-2, 2), run(-2, 2), run(-2, 2)}, only(-1, 0, 1, 2), only(-2, -1), only(1, 2))
	leaves(t, sum([]int{1, -2, 3}, api.LT, -10), list{run(-2, 2), run(-2, 2), run(-2, 2)}, only(-2, -1), only(2), only(-2))
	leaves(t, sum([]int{-4, 5}, api.GT, 30), list{run(-5, -1), run(-3, 3)}, only(-5, -4), only(3))
	leaves(t, sum([]int{-4, 5}, api.LE, -11), list{run(-5, -1), run(-3, 3)}, only(-1), only(-3))
	leaves(t, sum([]int{-4, 5}, api.LE, -12), list{run(-5, -1), run(-3, 3)}, only(), only())
}

// P12.1: of gaps and of values that are not left a step knows nothing but the ends of what is left.
func TestLinearLeft(t *testing.T) {
	leaves(t, sum([]int{1, 1}, api.EQ, 5), list{some(0, 9, 3, 5), some(0, 9, 1, 2)}, only(3), only(1, 2))
	leaves(t, sum([]int{1, 1}, api.EQ, 5), list{of(0, 9), of(0, 9)}, only(0), only(0))
	leaves(t, sum([]int{1, 1}, api.EQ, 5), list{some(0, 9, 0, 9), some(0, 9, 0, 4, 9)}, only(0), only(0, 4))
	leaves(t, sum([]int{1, 1}, api.LE, 5), list{some(0, 9, 3, 4, 9), some(0, 9, 2, 5)}, only(3), only(2))
	leaves(t, sum([]int{1, 1}, api.GE, 13), list{some(0, 9, 0, 5, 7), some(0, 9, 0, 6, 8)}, only(5, 7), only(6, 8))
	leaves(t, sum([]int{1, -1}, api.LT, -4), list{some(-9, 9, -3, 0, 3), some(-9, 9, -1, 2, 4)}, only(-3), only(2, 4))
	leaves(t, sum([]int{1, -1}, api.GT, 4), list{some(-9, 9, -3, 0, 3), some(-9, 9, -1, 2, 4)}, only(), only())
	leaves(t, sum([]int{1, -1}, api.GE, 4), list{some(-9, 9, -3, 0, 3), some(-9, 9, -1, 2, 4)}, only(3), only(-1))
	leaves(t, sum([]int{1}, api.GE, 0), list{some(-9, 9, -9, -1, 2, 9)}, only(2, 9))
	leaves(t, sum([]int{1, 1}, api.EQ, 1000000), list{of(-most, 3, 999999), of(1, 2, most)}, only(3, 999999), only(1, 2, most))
	leaves(t, sum([]int{1, 1}, api.EQ, -most+1), list{of(-most, 3, 999999), of(1, 2, most)}, only(-most), only(1))
}

// P12.1: of a variable that loses values another one knows nothing in the same step, whichever stands first.
func TestAhead(t *testing.T) {
	for _, vars := range [][]int{{0, 1}, {1, 0}} {
		c := sum([]int{1, 1}, api.EQ, 5)
		c.Vars = vars
		leaves(t, c, list{of(0, 4), of(0, 3, 5)}, only(0, 4), only(3, 5))
		leaves(t, c, list{of(0, 10), of(0, 1, 2, 3)}, only(), only(0, 1, 2, 3))
		leaves(t, c, list{of(0, 1, 2, 3), of(0, 10)}, only(0, 1, 2, 3), only())
		leaves(t, c, list{of(0, 6, 12), of(0, 6, 12)}, only(0), only(0))
		leaves(t, c, list{of(-6, 6), of(-6, 10)}, only(6), only(10))
	}
	for _, vars := range [][]int{{0, 1, 2}, {2, 1, 0}, {1, 2, 0}} {
		c := sum([]int{2, 2, 2}, api.EQ, 7)
		c.Vars = vars
		leaves(t, c, list{of(0, 4), of(0, 4), of(0, 4)}, only(0), only(0), only(0))
	}
	// The first one of Iff, too, knows nothing of what the others lose, and they nothing of what it does.
	leaves(t, iff([]int{1, 1}, api.EQ, 5), list{of(1), of(0, 10), of(0, 1, 2, 3)}, only(1), only(), only(0, 1, 2, 3))
	leaves(t, iff([]int{1, 1}, api.NE, 5), list{of(0), of(0, 10), of(0, 1, 2, 3)}, only(0), only(), only(0, 1, 2, 3))
	leaves(t, iff([]int{1, 1}, api.LE, 9), list{of(0, 1), of(0, 1), of(0, 1)}, only(1), only(0, 1), only(0, 1))
	last := api.Con{Kind: api.Iff, Vars: []int{2, 1, 0}, Coefs: []int{1, 1}, Rel: api.EQ, Const: 5}
	leaves(t, last, list{of(0, 10), of(0, 1, 2, 3), of(1)}, only(), only(0, 1, 2, 3), only(1))
}

// P12.1: as many variables as may be, and values.
func TestMost(t *testing.T) {
	ones := []int{1, 1, 1, 1, 1, 1, 1, 1}
	bits, all := times(8, of(0, 1)), slices.Repeat([][]int{only(0, 1)}, 8)
	leaves(t, sum(ones, api.EQ, 8), bits, slices.Repeat([][]int{only(1)}, 8)...)
	leaves(t, sum(ones, api.EQ, 0), bits, slices.Repeat([][]int{only(0)}, 8)...)
	leaves(t, sum(ones, api.EQ, 7), bits, all...)
	leaves(t, sum(ones, api.GT, 8), bits, slices.Repeat([][]int{only()}, 8)...)
	leaves(t, sum(ones, api.LE, 7), bits, all...)
	leaves(t, iff(ones, api.EQ, 8), slices.Concat(list{of(1)}, bits), slices.Concat([][]int{only(1)}, slices.Repeat([][]int{only(1)}, 8))...)
	leaves(t, iff(ones, api.EQ, 8), slices.Concat(list{of(0)}, bits), slices.Concat([][]int{only(0)}, all)...)
	leaves(t, iff(ones, api.GT, 0), slices.Concat(list{of(0)}, bits), slices.Concat([][]int{only(0)}, slices.Repeat([][]int{only(0)}, 8))...)
	leaves(t, iff(ones, api.GT, 8), slices.Concat(list{of(0, 1)}, bits), slices.Concat([][]int{only(0)}, all)...)
	// Of the greatest sum, 46, no variable may take away more than 11.
	leaves(t, sum([]int{1, 2, 3, 4, -5, -6, -7, -8}, api.GE, 35), times(8, run(-1, 2)),
		only(-1, 0, 1, 2), only(-1, 0, 1, 2), only(-1, 0, 1, 2), only(0, 1, 2), only(-1, 0, 1), only(-1, 0), only(-1, 0), only(-1, 0))
	wide := numbers(-31, 32)
	leaves(t, sum([]int{1, 1}, api.EQ, 0), list{run(-31, 32), run(-31, 32)}, wide[:63], wide[:63])
	leaves(t, sum([]int{1, 1}, api.EQ, 1), list{run(-31, 32), run(-31, 32)}, wide, wide)
	leaves(t, sum([]int{1, 1}, api.EQ, 64), list{run(-31, 32), run(-31, 32)}, only(32), only(32))
	leaves(t, sum([]int{1, 1}, api.LE, -61), list{run(-31, 32), run(-31, 32)}, only(-31, -30), only(-31, -30))
	leaves(t, sum([]int{-1}, api.LE, -1), list{run(-31, 32)}, numbers(1, 32))
	leaves(t, sum(ones, api.NE, 3), times(8, run(-31, 32)), slices.Repeat([][]int{wide}, 8)...)
}

// P12.1: the greatest values, Coefs and Consts.
func TestGreatest(t *testing.T) {
	ends := of(-most, most)
	leaves(t, sum([]int{most}, api.EQ, 1<<40), list{run(most-63, most)}, only(most))
	leaves(t, sum([]int{-most}, api.EQ, 1<<40), list{run(-most, 63-most)}, only(-most))
	leaves(t, sum([]int{-most}, api.EQ, -1<<40), list{ends}, only(most))
	leaves(t, sum([]int{most}, api.LT, 1<<40), list{ends}, only(-most))
	leaves(t, sum([]int{most}, api.LT, -1<<40), list{ends}, only())
	leaves(t, sum([]int{most}, api.GE, -1<<40), list{ends}, only(-most, most))
	eight := slices.Repeat([]int{most}, 8)
	both, up, down, none := slices.Repeat([][]int{only(-most, most)}, 8), slices.Repeat([][]int{only(most)}, 8), slices.Repeat([][]int{only(-most)}, 8), slices.Repeat([][]int{only()}, 8)
	minus := slices.Repeat([]int{-most}, 8)
	for _, rel := range rels {
		leaves(t, sum(eight, rel, 1<<40), times(8, ends), both...)
		leaves(t, sum(minus, rel, -1<<40), times(8, ends), both...)
		// Of one value each, just one sum is left: 2^43, or as much below 0.
		more, less := none, none
		if compared[rel][2] {
			more = up
		}
		if compared[rel][0] {
			less = down
		}
		leaves(t, sum(eight, rel, 1<<40), times(8, of(most)), more...)
		leaves(t, sum(eight, rel, -1<<40), times(8, of(-most)), less...)
		leaves(t, sum(minus, rel, 1<<40), times(8, of(-most)), turnedAll(more)...)
		leaves(t, sum(minus, rel, -1<<40), times(8, of(most)), turnedAll(less)...)
	}
	mixed := []int{most, -most, most, -most, most, -most, most, -most}
	leaves(t, sum(mixed, api.EQ, 0), times(8, of(most)), up...)
	leaves(t, sum(mixed, api.NE, 0), times(8, of(most)), none...)
	leaves(t, sum(eight, api.GT, 0), append(times(7, of(-most, most-1)), of(-most)), append(slices.Repeat([][]int{only(-most, most-1)}, 7), only(-most))...)
	leaves(t, iff(eight, api.GE, 1<<40), append(list{of(0)}, times(8, ends)...), append([][]int{only(0)}, both...)...)
	leaves(t, iff(eight, api.GE, 1<<40), append(list{of(0, 1)}, times(8, of(most))...), append([][]int{only(1)}, up...)...)
}

// turnedAll are lists of numbers, each turned.
func turnedAll(l [][]int) [][]int {
	var r [][]int
	for _, one := range l {
		r = append(r, turned(one))
	}
	return r
}

// P12.1: of domains of which one has nothing left: nothing of any of the constraint's, if it is one of these, else all.
func TestWiped(t *testing.T) {
	full, empty := run(0, 3), some(0, 3)
	none, all := only(), only(0, 1, 2, 3)
	for _, rel := range rels {
		c := sum([]int{1, 1, -1}, rel, 2)
		for at := range 3 {
			l := list{full, full, full}
			l[at] = empty
			leaves(t, c, l, none, none, none)
			l[(at+1)%3] = dom.Dom{}
			leaves(t, c, l, none, none, none)
		}
		leaves(t, c, list{empty, empty, empty}, none, none, none)
		leaves(t, sum([]int{5}, rel, 2), list{empty}, none)
		for at := range 4 {
			for _, first := range []dom.Dom{of(0), of(1), of(0, 1), of(0, 1, 2), of(7)} {
				l := list{first, full, full, full}
				l[at] = some(-2, 60)
				leaves(t, iff([]int{1, 1, -1}, rel, 2), l, none, none, none, none)
			}
		}
		// Nothing is left of one that the constraint doesn't name.
		named := sum([]int{1, 1}, rel, 3)
		named.Vars = []int{2, 0}
		part := all
		switch rel {
		case api.LT:
			part = only(0, 1, 2)
		case api.GT:
			part = only(1, 2, 3)
		}
		want := [][]int{part, none, part}
		step(t, named, list{full, empty, full}, want)
		step(t, named, list{full, {}, full}, want)
		step(t, named, list{full, {Vals: []int{}}, full}, want)
		step(t, named, list{empty, empty, full}, [][]int{none, none, none})
		step(t, named, list{empty, full, full}, [][]int{none, all, none})
		step(t, named, list{full, full, {}}, [][]int{none, all, none})
	}
	// What the others know of one of which the step itself leaves nothing is what was left ahead.
	leaves(t, sum([]int{1, 1}, api.EQ, 5), list{of(0, 10), run(0, 3)}, none, all)
}

// P12.1: Iff, by what is left of its first variable, where its rel may hold, where just the contrary one may, and where
// both may.
func TestIff(t *testing.T) {
	coefs, all, none := []int{1, 1}, only(0, 1, 2, 3), only()
	for _, s := range []struct {
		rel, number int
		first       dom.Dom
		want, other []int
	}{
		// Both may.
		{api.EQ, 5, of(1), only(1), only(2, 3)}, {api.EQ, 5, of(0), only(0), all}, {api.EQ, 5, of(0, 1), only(0, 1), all},
		{api.NE, 5, of(1), only(1), all}, {api.NE, 5, of(0), only(0), only(2, 3)}, {api.NE, 5, of(0, 1), only(0, 1), all},
		{api.LT, 2, of(1), only(1), only(0, 1)}, {api.LT, 4, of(0), only(0), only(1, 2, 3)}, {api.LT, 4, of(0, 1), only(0, 1), all},
		{api.LE, 2, of(1), only(1), only(0, 1, 2)}, {api.LE, 4, of(0), only(0), only(2, 3)}, {api.LE, 4, of(0, 1), only(0, 1), all},
		{api.GT, 4, of(1), only(1), only(2, 3)}, {api.GT, 2, of(0), only(0), only(0, 1, 2)}, {api.GT, 2, of(0, 1), only(0, 1), all},
		{api.GE, 4, of(1), only(1), only(1, 2, 3)}, {api.GE, 2, of(0), only(0), only(0, 1)}, {api.GE, 2, of(0, 1), only(0, 1), all},
		{api.EQ, 0, of(1), only(1), only(0)}, {api.NE, 6, of(0), only(0), only(3)}, {api.GT, 5, of(0, 1), only(0, 1), all}, {api.LE, 0, of(0, 1), only(0, 1), all},
		// The rel may, the contrary one may not.
		{api.NE, 9, of(1), only(1), all}, {api.NE, 9, of(0), none, none}, {api.NE, 9, of(0, 1), only(1), all},
		{api.LT, 7, of(1), only(1), all}, {api.LT, 7, of(0), none, none}, {api.LT, 7, of(0, 1), only(1), all},
		{api.LE, 6, of(1), only(1), all}, {api.LE, 6, of(0), none, none}, {api.LE, 6, of(0, 1), only(1), all},
		{api.GT, -1, of(1), only(1), all}, {api.GT, -1, of(0), none, none}, {api.GT, -1, of(0, 1), only(1), all},
		{api.GE, 0, of(1), only(1), all}, {api.GE, 0, of(0), none, none}, {api.GE, 0, of(0, 1), only(1), all},
		// The contrary one may, the rel may not.
		{api.EQ, 7, of(1), none, none}, {api.EQ, 7, of(0), only(0), all}, {api.EQ, -1, of(0, 1), only(0), all},
		{api.LT, 0, of(1), none, none}, {api.LT, 0, of(0), only(0), all}, {api.LT, 0, of(0, 1), only(0), all},
		{api.LE, -1, of(1), none, none}, {api.LE, -1, of(0), only(0), all}, {api.LE, -1, of(0, 1), only(0), all},
		{api.GT, 6, of(1), none, none}, {api.GT, 6, of(0), only(0), all}, {api.GT, 6, of(0, 1), only(0), all},
		{api.GE, 7, of(1), none, none}, {api.GE, 7, of(0), only(0), all}, {api.GE, 7, of(0, 1), only(0), all},
		// Neither 0 nor 1 is left of the first one, of which other values may be.
		{api.EQ, 5, of(2), none, none}, {api.EQ, 5, of(-1), none, none}, {api.EQ, 7, of(-1, 2), none, none}, {api.NE, 5, of(-most, most), none, none},
		{api.LT, 7, run(2, 65), none, none}, {api.GE, 0, run(-64, -1), none, none}, {api.GE, 2, some(-1, 2, -1, 2), none, none},
		// 1, or 0, or both stand beside other values.
		{api.EQ, 5, of(1, 2), only(1), only(2, 3)}, {api.EQ, 5, of(-1, 1), only(1), only(2, 3)}, {api.EQ, 7, of(-1, 1, 2), none, none},
		{api.NE, 5, of(0, 2), only(0), only(2, 3)}, {api.NE, 5, of(-1, 0), only(0), only(2, 3)}, {api.NE, 7, of(-3, 0, 3), none, none},
		{api.LE, 4, run(-5, 5), only(0, 1), all}, {api.LE, 6, run(-5, 5), only(1), all}, {api.GT, 6, run(-5, 5), only(0), all},
		{api.GT, 4, run(1, 64), only(1), only(2, 3)}, {api.GT, 2, run(-63, 0), only(0), only(0, 1, 2)},
		// 0 or 1 isn't left, though it is a value.
		{api.EQ, 5, some(0, 1, 1), only(1), only(2, 3)}, {api.NE, 5, some(0, 1, 0), only(0), only(2, 3)}, {api.EQ, 5, some(-2, 3, -2, 1, 3), only(1), only(2, 3)},
		{api.NE, 5, some(-2, 3, -2, 0, 3), only(0), only(2, 3)}, {api.LT, 4, some(-2, 3, -2, 0, 1, 3), only(0, 1), all},
	} {
		l := list{s.first, run(0, 3), run(0, 3)}
		leaves(t, iff(coefs, s.rel, s.number), l, s.want, s.other, s.other)
		// The same first variable, of other sums.
		alike(t, iff([]int{-1, 2}, s.rel, s.number), l)
		alike(t, iff([]int{-1, -1}, s.rel, -s.number), l)
	}
}

// P12.1: Iff of a sum of one variable, and with Coefs below 0; the first variable is none of the sum's.
func TestIffCoefs(t *testing.T) {
	leaves(t, iff([]int{1}, api.EQ, 2), list{of(1), run(-4, 4)}, only(1), only(2))
	leaves(t, iff([]int{1}, api.EQ, 2), list{of(0), run(-4, 4)}, only(0), only(-4, -3, -2, -1, 0, 1, 3, 4))
	leaves(t, iff([]int{-2}, api.EQ, 6), list{of(0, 1), of(-3)}, only(1), only(-3))
	leaves(t, iff([]int{-2}, api.EQ, 6), list{of(0, 1), of(3)}, only(0), only(3))
	leaves(t, iff([]int{-2}, api.GT, 2), list{of(1), run(-4, 4)}, only(1), only(-4, -3, -2))
	leaves(t, iff([]int{-2}, api.GT, 2), list{of(0), run(-4, 4)}, only(0), only(-1, 0, 1, 2, 3, 4))
	leaves(t, iff([]int{-2}, api.LT, -2), list{of(1), run(-4, 4)}, only(1), only(2, 3, 4))
	leaves(t, iff([]int{2, -3}, api.LE, -5), list{of(1), run(0, 3), run(0, 3)}, only(1), only(0, 1, 2), only(2, 3))
	leaves(t, iff([]int{2, -3}, api.GT, -5), list{of(0), run(0, 3), run(0, 3)}, only(0), only(0, 1, 2), only(2, 3))
	leaves(t, iff([]int{2, -3}, api.GE, 2), list{of(1), run(0, 3), run(0, 3)}, only(1), only(1, 2, 3), only(0, 1))
	leaves(t, iff([]int{2, -3}, api.LT, 2), list{of(0), run(0, 3), run(0, 3)}, only(0), only(1, 2, 3), only(0, 1))
	leaves(t, iff([]int{1, -2, 3}, api.EQ, 11), list{of(1, 5), run(-2, 2), run(-2, 2), run(-2, 2)}, only(1), only(1, 2), only(-2), only(2))
	leaves(t, iff([]int{1, 1}, api.NE, 5), list{of(0), some(0, 9, 3, 5), some(0, 9, 1, 2)}, only(0), only(3), only(1, 2))
	leaves(t, iff([]int{1, 1}, api.EQ, 5), list{of(0), of(2), run(0, 5)}, only(0), only(2), only(0, 1, 2, 4, 5))
	leaves(t, iff([]int{1, 1}, api.NE, 5), list{of(1), of(2), run(0, 5)}, only(1), only(2), only(0, 1, 2, 4, 5))
	leaves(t, iff([]int{1, 1}, api.NE, 5), list{of(0, 1), of(2), of(3)}, only(0), only(2), only(3))
	leaves(t, iff([]int{1, 1}, api.EQ, 5), list{of(0, 1), of(2), of(3)}, only(1), only(2), only(3))
	leaves(t, iff([]int{1, 1}, api.EQ, 5), list{of(0, 1), of(2), of(3, 4)}, only(0, 1), only(2), only(3, 4))
	leaves(t, iff([]int{1, 1}, api.LT, 0), list{of(0, 1), of(-most), of(most)}, only(0), only(-most), only(most))
	leaves(t, iff([]int{most, most}, api.LT, 0), list{of(0, 1), of(-most), of(most - 1)}, only(1), only(-most), only(most-1))
}

// P12.1: variables in all orders, each with a domain of its own, so that no two can stand for each other.
func TestOrders(t *testing.T) {
	l := list{run(0, 1), run(-3, 5), some(-9, 9, -8, 1, 4), of(-20, 7, 30), run(0, 2)}
	d := dice(11)
	for range 3000 {
		terms := 1 + d.upTo(4)
		c := api.Con{Kind: api.Linear, Vars: d.order(5)[:terms], Rel: d.upTo(6), Const: d.upTo(60) - 25}
		for range terms {
			c.Coefs = append(c.Coefs, d.of(1, -1, 2, -3))
		}
		alike(t, c, l)
		c = api.Con{Kind: api.Iff, Vars: d.order(5)[:terms+1], Coefs: c.Coefs, Rel: c.Rel, Const: c.Const}
		alike(t, c, l)
	}
}

// P12.1: all small sums, against each Const about them.
func TestPlainSmall(t *testing.T) {
	for _, l := range []list{
		{of(0, 1), run(0, 2), run(-1, 1)},
		{of(0), of(-2, 1), of(-1, 3)},
		{of(1), some(-2, 2, -1, 2), some(0, 3, 0, 3)},
		{run(-1, 2), of(2), of(0, 2)},
		{of(1, 2), of(2), of(-1)},
		{of(0, 4), of(-3, -1), of(-1, 0, 5)},
		{of(3), of(0, 1), of(0, 1)},
	} {
		for _, a := range []int{-2, -1, 1, 3} {
			for _, b := range []int{-1, 1, 2} {
				for number := -13; number <= 13; number++ {
					for _, rel := range rels {
						alike(t, sum([]int{a}, rel, number), l)
						alike(t, sum([]int{a, b}, rel, number), l)
						alike(t, sum([]int{a, b, -1}, rel, number), l)
						alike(t, iff([]int{a}, rel, number), l)
						alike(t, iff([]int{a, b}, rel, number), l)
					}
				}
			}
		}
	}
}

// P12.1: thrown constraints and domains, some of which may not be, as the chapter's words have it.
func TestPlainThrown(t *testing.T) {
	d := dice(5)
	told := map[string]int{}
	for range 25000 {
		c, l := thrown(&d, 9+d.upTo(4), 60)
		switch d.upTo(16) {
		case 0:
			l = l[:d.upTo(len(l))]
		case 1:
			l[d.upTo(len(l))].Live = 1 << d.upTo(64)
		case 2:
			c.Kind = d.upTo(9) - 1
		case 3:
			c.Coefs = c.Coefs[:len(c.Coefs)-d.upTo(2)]
			c.Rel = d.upTo(8) - 1
		}
		want, right := plainStep(c, l)
		if !right {
			refused(t, c, l)
			told["none"]++
			continue
		}
		step(t, c, l, want)
		for _, i := range c.Vars {
			switch {
			case len(left(l[i])) == 0:
				told["empty"]++
			case len(want[i]) == len(left(l[i])):
				told["all"]++
			case len(want[i]) == 0:
				told["wiped"]++
			default:
				told["some"]++
			}
		}
	}
	for _, s := range []string{"none", "empty", "all", "wiped", "some"} {
		if told[s] < 500 {
			t.Errorf("too few of %s: %d", s, told[s])
		}
	}
}

// P12.1: constraints that need more variables than there are domains, and just as many.
func TestStepVars(t *testing.T) {
	for n := 1; n <= api.MostTerms; n++ {
		c, i := sum(slices.Repeat([]int{1}, n), api.GE, -100), iff(slices.Repeat([]int{1}, n), api.GE, -100)
		l := times(n+1, run(0, 1))
		refused(t, c, nil)
		refused(t, c, list{})
		refused(t, c, l[:n-1])
		step(t, c, l[:n], values(l[:n]))
		step(t, c, l, values(l))
		refused(t, i, nil)
		refused(t, i, list{})
		refused(t, i, l[:n])
		l[0] = of(1)
		step(t, i, l, values(l))
	}
	for place := range 20 {
		one := api.Con{Kind: api.Linear, Vars: []int{place}, Coefs: []int{1}, Rel: api.EQ, Const: 1}
		refused(t, one, nil)
		refused(t, one, times(place, run(0, 1)))
		l := times(place+1, run(0, 1))
		want := values(l)
		want[place] = only(1)
		step(t, one, l, want)
		step(t, one, append(l, run(0, 1)), append(want, only(0, 1)))
	}
}

// P12.1: constraints that may not be, or are of another kind.
func TestStepCons(t *testing.T) {
	l := append(list{of(0, 1)}, times(11, run(0, 3))...)
	good, iffs := sum([]int{1, -1}, api.NE, 0), iff([]int{1, -1}, api.EQ, 0)
	step(t, good, l, values(l))
	step(t, iffs, l, values(l))
	for _, c := range []api.Con{
		{},
		{Kind: api.Linear}, {Kind: api.Iff},
		{Kind: api.Product, Vars: []int{0, 1, 2}},
		{Kind: api.Element, Vars: []int{0, 1}, Nums: []int{1, 2}},
		{Kind: api.Differ, Vars: []int{0, 1}},
		{Kind: api.Table, Vars: []int{0, 1}, Nums: []int{1, 1}},
		{Kind: api.Table, Vars: []int{0}},
		sum(nil, api.EQ, 0), iff(nil, api.EQ, 0),
		sum(slices.Repeat([]int{1}, 9), api.EQ, 0), iff(slices.Repeat([]int{1}, 9), api.EQ, 0),
	} {
		refused(t, c, l)
		refused(t, c, nil)
	}
	for _, base := range []api.Con{good, iffs} {
		for i, spoil := range []func(c *api.Con){
			func(c *api.Con) { c.Kind = 0 },
			func(c *api.Con) { c.Kind = -1 },
			func(c *api.Con) { c.Kind = 7 },
			func(c *api.Con) { c.Kind = api.Product },
			func(c *api.Con) { c.Kind = api.Element },
			func(c *api.Con) { c.Kind = api.Differ },
			func(c *api.Con) { c.Kind = api.Table },
			func(c *api.Con) { c.Kind = api.Linear + api.Iff - c.Kind },
			func(c *api.Con) { c.Kind = math.MinInt },
			func(c *api.Con) { c.Kind = math.MaxInt },
			func(c *api.Con) { c.Kind += 1 << 32 },
			func(c *api.Con) { c.Vars = nil },
			func(c *api.Con) { c.Vars = c.Vars[1:] },
			func(c *api.Con) { c.Vars = append(c.Vars, 9) },
			func(c *api.Con) { c.Vars[1] = c.Vars[0] },
			func(c *api.Con) { c.Vars[0] = -1 },
			func(c *api.Con) { c.Vars[0] = 12 },
			func(c *api.Con) { c.Vars[1] = math.MinInt },
			func(c *api.Con) { c.Vars[1] = math.MaxInt },
			func(c *api.Con) { c.Coefs = nil },
			func(c *api.Con) { c.Coefs = c.Coefs[1:] },
			func(c *api.Con) { c.Coefs = append(c.Coefs, 1) },
			func(c *api.Con) { c.Coefs[0] = 0 },
			func(c *api.Con) { c.Coefs[1] = most + 1 },
			func(c *api.Con) { c.Coefs[1] = -most - 1 },
			func(c *api.Con) { c.Coefs[0] = math.MinInt },
			func(c *api.Con) { c.Rel = -1 },
			func(c *api.Con) { c.Rel = 6 },
			func(c *api.Con) { c.Rel = math.MaxInt },
			func(c *api.Con) { c.Rel = math.MinInt },
			func(c *api.Con) { c.Const = 1<<40 + 1 },
			func(c *api.Con) { c.Const = -1<<40 - 1 },
			func(c *api.Con) { c.Const = math.MinInt },
			func(c *api.Con) { c.Const = math.MaxInt },
			func(c *api.Con) { c.Nums = []int{0} },
		} {
			c := copiedCon(base)
			spoil(&c)
			if _, e := Step(c, l); e != api.ErrArg {
				t.Errorf("fault %d: error %d", i, e)
			}
			refused(t, c, l)
			refused(t, c, nil)
			refused(t, c, times(12, dom.Dom{}))
		}
	}
}

// P12.1: what is just within what may be.
func TestStepEdges(t *testing.T) {
	l := list{of(0, 1), of(-1, 1)}
	c := sum([]int{most, -most}, api.LE, 1<<40)
	step(t, c, l, values(l))
	c.Const, c.Rel = -1<<40, api.GE
	step(t, c, l, values(l))
	c.Nums = []int{}
	step(t, c, l, values(l))
}

// wrongs are domains that may not be, each for one reason.
func wrongs() list {
	return list{
		{Vals: []int{2, 1}, Live: 3}, {Vals: []int{1, 1}, Live: 1}, {Vals: []int{1, 3, 2}}, {Vals: []int{0, 1, 1}, Live: 3},
		{Vals: []int{most + 1}, Live: 1}, {Vals: []int{-most - 1}, Live: 1}, {Vals: []int{0, most + 1}, Live: 1}, {Vals: []int{-most - 1, 0}},
		{Vals: []int{math.MinInt}, Live: 1}, {Vals: []int{math.MaxInt}, Live: 1}, {Vals: []int{0, math.MaxInt, math.MinInt}, Live: 7},
		{Live: 1}, {Vals: []int{}, Live: 1}, {Live: math.MaxUint64}, {Vals: []int{0, 1}, Live: 4}, {Vals: []int{0, 1}, Live: 7},
		{Vals: []int{0, 1}, Live: 1 << 63}, {Vals: numbers(0, 62), Live: math.MaxUint64},
		{Vals: numbers(0, 64), Live: math.MaxUint64}, {Vals: numbers(0, 64)}, {Vals: numbers(-500, 500), Live: 1},
	}
}

// P12.1: domains that may not be, of each variable of the constraint, and of others.
func TestStepDoms(t *testing.T) {
	c := api.Con{Kind: api.Linear, Vars: []int{3, 1}, Coefs: []int{1, 1}, Rel: api.GE}
	i := api.Con{Kind: api.Iff, Vars: []int{3, 1}, Coefs: []int{1}, Rel: api.GE}
	for _, wrong := range wrongs() {
		for at := range 5 {
			for _, other := range []dom.Dom{of(0, 1), of(0), some(0, 1), {}} {
				l := times(5, other)
				l[at] = wrong
				refused(t, c, l)
				refused(t, i, l)
				refused(t, api.Con{Kind: api.Differ, Vars: []int{0, 1}}, l)
			}
		}
	}
	refused(t, c, times(5, wrongs()[0]))
	step(t, c, times(5, of(0, 1)), slices.Repeat([][]int{only(0, 1)}, 5))
	step(t, i, append(times(3, of(0, 1)), of(1), of(1)), [][]int{only(0, 1), only(0, 1), only(0, 1), only(1), only(1)})
}

// P12.1: values at the last places, of domains that have as many as may be.
func TestLastPlaces(t *testing.T) {
	d := dom.Dom{Vals: numbers(-63, 0), Live: 1<<63 | 1<<62}
	leaves(t, sum([]int{1}, api.EQ, 0), list{d}, only(0))
	leaves(t, sum([]int{1}, api.NE, 0), list{d}, only(-1))
	leaves(t, sum([]int{1, -1}, api.LT, 0), list{d, d}, only(-1), only(0))
	leaves(t, sum([]int{-1}, api.GE, 1), list{run(-63, 0)}, numbers(-63, -1))
}

// P12.1: Contrary of each rel, and of what is none.
func TestContrary(t *testing.T) {
	for _, s := range [][2]int{{api.EQ, api.NE}, {api.LT, api.GE}, {api.LE, api.GT}} {
		if Contrary(s[0]) != s[1] || Contrary(s[1]) != s[0] {
			t.Errorf("Contrary of %d, %d: %d, %d", s[0], s[1], Contrary(s[0]), Contrary(s[1]))
		}
	}
	for _, rel := range rels {
		if Contrary(Contrary(rel)) != rel || Contrary(rel) == rel {
			t.Errorf("Contrary of %d: %d, of that %d", rel, Contrary(rel), Contrary(Contrary(rel)))
		}
		for _, a := range []int64{-1 << 43, -7, -1, 0, 1, 2, 1 << 43} {
			for _, b := range []int64{-1 << 40, -7, 0, 1, 2, 1 << 40} {
				if sums.Holds(a, rel, b) == sums.Holds(a, Contrary(rel), b) {
					t.Errorf("%d and %d: both of %d and %d", a, b, rel, Contrary(rel))
				}
			}
		}
	}
	for _, rel := range []int{-1, 6, -2, 7, 8, 100, -100, 255, 256, 257, 1 << 16, 1 << 32, 1<<32 + 1, -1 << 32, math.MinInt, math.MinInt + 1, math.MaxInt - 1, math.MaxInt} {
		if Contrary(rel) != rel || Contrary(Contrary(rel)) != rel {
			t.Errorf("Contrary of %d: %d", rel, Contrary(rel))
		}
	}
}

// within tells whether all numbers of each list are of the other's, too.
func within(a, b [][]int) bool {
	for i, l := range a {
		for _, v := range l {
			if !slices.Contains(b[i], v) {
				return false
			}
		}
	}
	return len(a) == len(b)
}

// rows tells all rows of values, one of each list.
func rows(own [][]int) [][]int {
	l := [][]int{{}}
	for _, values := range own {
		var longer [][]int
		for _, row := range l {
			for _, v := range values {
				longer = append(longer, append(slices.Clone(row), v))
			}
		}
		l = longer
	}
	return l
}

// P12.2: no row that holds, and whose values are left, loses one.
func TestRows(t *testing.T) {
	d := dice(13)
	held, lost := 0, 0
	for range 12000 {
		c, l := thrown(&d, 9, 200)
		got, e := Step(c, l)
		if e != api.OK {
			t.Errorf("Step of %s, %s: error %d", short(c), short(l), e)
			continue
		}
		var own, kept [][]int
		count := 1
		for _, i := range c.Vars {
			own, kept = append(own, left(l[i])), append(kept, left(got[i]))
			count *= len(left(l[i]))
		}
		if count > 3000 {
			continue
		}
		whole := make([]int, len(l))
		for _, row := range rows(own) {
			for at, i := range c.Vars {
				whole[i] = row[at]
			}
			if !ground.Holds(c, whole) {
				continue
			}
			held++
			for at, v := range row {
				if !slices.Contains(kept[at], v) {
					t.Errorf("Step of %s, %s: %v holds, but of %d there is left %v", short(c), short(l), row, at, kept[at])
				}
			}
		}
		if !reflect.DeepEqual(own, kept) {
			lost++
		}
	}
	if held < 10000 || lost < 1500 {
		t.Errorf("%d rows hold, %d times less is left", held, lost)
	}
}

// P12.2: what a step leaves was left ahead of it; of less, less is left.
func TestLess(t *testing.T) {
	d := dice(17)
	fewer := 0
	for range 8000 {
		c, l := thrown(&d, 9+d.upTo(3), 80)
		more, e := Step(c, l)
		if e != api.OK || !within(values(more), values(l)) {
			t.Errorf("Step of %s, %s: %s, error %d", short(c), short(l), short(more), e)
		}
		less := copied(l)
		for range 1 + d.upTo(3) {
			less[c.Vars[d.upTo(len(c.Vars))]].Live &= ^(1 << d.upTo(12))
		}
		got, e := Step(c, less)
		if e != api.OK || !within(values(got), values(more)) {
			t.Errorf("Step of %s: of %s leaves %s, of %s %s", short(c), short(values(l)), short(values(more)), short(values(less)), short(values(got)))
		}
		if !reflect.DeepEqual(values(got), values(more)) {
			fewer++
		}
		// What is left of what is left is less, too.
		again, e := Step(c, more)
		if e != api.OK || !within(values(again), values(more)) {
			t.Errorf("Step of %s, %s: %s, error %d", short(c), short(more), short(again), e)
		}
	}
	if fewer < 1500 {
		t.Errorf("%d times less was left of less", fewer)
	}
}

// P12.2: what is left of single values is all, just if the constraint holds of them; else it is none.
func TestSingles(t *testing.T) {
	d := dice(19)
	told := map[string]int{}
	for range 12000 {
		c, l := thrown(&d, 9+d.upTo(3), 1<<30)
		row := make([]int, len(l))
		for i := range l {
			k := d.upTo(len(l[i].Vals))
			row[i], l[i].Live = l[i].Vals[k], 1<<k
		}
		if d.upTo(2) == 0 {
			c.Const = d.of(0, 1, -1)
			for at, k := range c.Coefs {
				c.Const += k * row[c.Vars[at+c.Kind/2]]
			}
			c.Const = min(max(c.Const, -1<<40), 1<<40)
		}
		want := values(l)
		holds := ground.Holds(c, row)
		if !holds {
			for _, i := range c.Vars {
				want[i] = only()
			}
		}
		step(t, c, l, want)
		told[fmt.Sprint(c.Kind, holds)]++
	}
	for _, s := range []string{"1 true", "1 false", "3 true", "3 false"} {
		if told[s] < 1000 {
			t.Errorf("too few of %s: %d", s, told[s])
		}
	}
}

// P12.2: of single values below 0, of 0, and above, with each rel.
func TestSinglesSmall(t *testing.T) {
	for _, row := range rows([][]int{{-1, 0, 1, 2}, {-2, 0, 1}, {-1, 3}}) {
		l := list{of(row[0]), of(row[1]), of(row[2])}
		for number := -8; number <= 8; number++ {
			for _, rel := range rels {
				for _, c := range []api.Con{sum([]int{1, -2, 1}, rel, number), iff([]int{2, -1}, rel, number)} {
					want := values(l)
					if !ground.Holds(c, row) {
						want = [][]int{only(), only(), only()}
					}
					step(t, c, l, want)
				}
			}
		}
	}
}

// P12.2: of a rel and its contrary each value is left by one at least, but those of Iff's first variable that are
// neither 0 nor 1; these by none.
func TestBothRels(t *testing.T) {
	d := dice(23)
	apart := 0
	for range 8000 {
		c, l := thrown(&d, 9, 1<<30)
		if c.Kind == api.Iff && !dom.Has(l[c.Vars[0]], 0) && !dom.Has(l[c.Vars[0]], 1) {
			continue
		}
		other := c
		other.Rel = Contrary(c.Rel)
		a, e := Step(c, l)
		b, f := Step(other, l)
		if e != api.OK || f != api.OK {
			t.Errorf("Step of %s, %s: errors %d, %d", short(c), short(l), e, f)
			continue
		}
		for i := range l {
			for _, v := range left(l[i]) {
				is := slices.Contains(left(a[i]), v) || slices.Contains(left(b[i]), v)
				if is == (c.Kind == api.Iff && i == c.Vars[0] && v != 0 && v != 1) {
					t.Errorf("Step of %s, %s: of %d %d, by one of both: %t", short(c), short(l), i, v, is)
				}
			}
		}
		if !reflect.DeepEqual(values(a), values(b)) {
			apart++
		}
	}
	if apart < 2000 {
		t.Errorf("%d times both leave other values", apart)
	}
}

// spoilt fills all memory that domains have with other things, to its last place.
func spoilt(l list) {
	for i := range l {
		vals := l[i].Vals[:cap(l[i].Vals)]
		for k := range vals {
			vals[k] = 777
		}
	}
	l = l[:cap(l)]
	for i := range l {
		l[i] = dom.Dom{Vals: []int{888}, Live: 9}
	}
}

// P12.1, R3: answers share no memory with an argument, nor with another answer, nor within themselves.
func TestShared(t *testing.T) {
	d := dice(29)
	for range 3000 {
		c, l := thrown(&d, 9, 30)
		for i := range l {
			// There is room behind the last value, and two variables have their values in the same place.
			l[i].Vals = append(make([]int, 0, len(l[i].Vals)+3), l[i].Vals...)
		}
		l[d.upTo(9)] = l[d.upTo(9)]
		l = append(make(list, 0, 12), l...)
		con, was := copiedCon(c), copied(l)
		first, _ := Step(c, l)
		second, _ := Step(c, l)
		kept := copied(first)
		if !reflect.DeepEqual(first, second) {
			t.Errorf("Step of %s, %s: another time %s, not %s", short(c), short(l), short(second), short(first))
		}
		spoilt(second)
		if !reflect.DeepEqual(first, kept) || !reflect.DeepEqual(l, was) || !reflect.DeepEqual(c, con) {
			t.Errorf("Step of %s, %s: shared with the answer of another call", short(con), short(was))
		}
		for i := range first {
			vals := first[i].Vals[:cap(first[i].Vals)]
			for k := range vals {
				vals[k] = 777
			}
			if !reflect.DeepEqual(first[i+1:], kept[i+1:]) {
				t.Errorf("Step of %s, %s: what %d has is shared", short(con), short(was), i)
			}
		}
		spoilt(first)
		if !reflect.DeepEqual(l, was) || !reflect.DeepEqual(c, con) {
			t.Errorf("Step of %s, %s: now they are %s, %s", short(con), short(was), short(c), short(l))
		}
		third, _ := Step(c, l)
		for _, numbers := range [][]int{c.Vars, c.Coefs} {
			for i := range numbers {
				numbers[i] = 999
			}
		}
		spoilt(l)
		if !reflect.DeepEqual(third, kept) {
			t.Errorf("Step of %s, %s: the answer became %s", short(con), short(was), short(third))
		}
	}
}

// R6: no values are no values, whether there is a list of them or not.
func TestEmpty(t *testing.T) {
	c := api.Con{Kind: api.Linear, Vars: []int{1}, Coefs: []int{1}, Rel: api.GT, Const: 0, Nums: []int{}}
	for _, none := range []dom.Dom{{}, {Vals: []int{}}, {Vals: []int{1}[:0]}} {
		step(t, c, list{none, run(0, 3)}, [][]int{only(), only(1, 2, 3)})
		step(t, c, list{run(0, 3), none}, [][]int{only(0, 1, 2, 3), only()})
		step(t, c, list{none, none}, [][]int{only(), only()})
	}
}

// R1: every call ends and none panics, of very many domains, and of numbers at the ends of int.
func TestGreat(t *testing.T) {
	many := times(1<<16, run(0, 3))
	last := api.Con{Kind: api.Linear, Vars: []int{1<<16 - 1, 0}, Coefs: []int{1, 1}, Rel: api.EQ, Const: 6}
	want := values(many)
	want[0], want[1<<16-1] = only(3), only(3)
	step(t, last, many, want)
	last.Vars[0] = 1 << 16
	refused(t, last, many)
	numbers := []int{math.MinInt, math.MaxInt, -1, 0, 1, 2, 3, most, 1 << 40}
	d := dice(31)
	for range 100000 {
		c := api.Con{Kind: d.of(1, 3, 1, 3, d.of(numbers...)), Rel: d.of(0, 1, 2, 5, d.of(numbers...)), Const: d.of(numbers...)}
		for range d.upTo(4) {
			c.Vars = append(c.Vars, d.of(0, 1, 2, d.of(numbers...)))
		}
		for range d.upTo(4) {
			c.Coefs = append(c.Coefs, d.of(1, -1, d.of(numbers...)))
		}
		var l list
		for range d.upTo(5) {
			var a dom.Dom
			for range d.upTo(4) {
				a.Vals = append(a.Vals, d.of(numbers...))
			}
			if d.upTo(3) > 0 {
				slices.Sort(a.Vals)
			}
			a.Live = uint64(d.of(0, 1, 3, 7, 7, d.of(numbers...)))
			l = append(l, a)
		}
		if want, right := plainStep(c, l); right {
			step(t, c, l, want)
		} else {
			refused(t, c, l)
		}
	}
}
