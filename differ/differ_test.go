package differ

import (
	"fmt"
	"math"
	"reflect"
	"slices"
	"testing"

	"stratagem/api"
	"stratagem/dom"
	"stratagem/ground"
)

// most is the greatest number.
const most = api.MostNum

// list is a short name of domains.
type list = []dom.Dom

// of is a domain of values, all left.
func of(vals ...int) dom.Dom {
	return dom.Dom{Vals: vals, Live: uint64(1)<<len(vals) - 1}
}

// run is a domain of all values from low to high, all left.
func run(low, high int) dom.Dom {
	return of(numbers(low, high)...)
}

// some is a domain of all values from low to high, of which just some are left.
func some(low, high int, left ...int) dom.Dom {
	d := dom.Dom{Vals: numbers(low, high)}
	for _, v := range left {
		d.Live |= 1 << (v - low)
	}
	return d
}

// numbers are those from low to high.
func numbers(low, high int) []int {
	l := []int{}
	for v := low; v <= high; v++ {
		l = append(l, v)
	}
	return l
}

// only is a list of numbers; of none it isn't nil.
func only(l ...int) []int {
	return append([]int{}, l...)
}

// nothing is so many lists of no number.
func nothing(n int) [][]int {
	return slices.Repeat([][]int{only()}, n)
}

// times is so many domains, each like one.
func times(n int, d dom.Dom) list {
	var l list
	for range n {
		l = append(l, dom.Dom{Vals: slices.Clone(d.Vals), Live: d.Live})
	}
	return l
}

// differ is the constraint that the values of some variables are all unlike.
func differ(vars ...int) api.Con {
	return api.Con{Kind: api.Differ, Vars: vars}
}

// copied is the same domains, with memory of their own.
func copied(l list) list {
	if l == nil {
		return nil
	}
	c := make(list, len(l))
	for i, d := range l {
		c[i] = dom.Dom{Vals: slices.Clone(d.Vals), Live: d.Live}
	}
	return c
}

// copiedCon is the same constraint, with memory of its own.
func copiedCon(c api.Con) api.Con {
	c.Vars, c.Coefs, c.Nums = slices.Clone(c.Vars), slices.Clone(c.Coefs), slices.Clone(c.Nums)
	return c
}

// values tells what is left of domains.
func values(l list) [][]int {
	all := [][]int{}
	for _, d := range l {
		all = append(all, left(d))
	}
	return all
}

// short tells a thing as some words, however great it is.
func short(x any) string {
	s := fmt.Sprint(x)
	return s[:min(len(s), 400)]
}

// step looks what a step leaves, and that it changes nothing else.
func step(t *testing.T, c api.Con, l list, want [][]int) {
	t.Helper()
	con, was := copiedCon(c), copied(l)
	got, e := Step(c, l)
	if e != api.OK || len(got) != len(l) {
		t.Errorf("Step of %s, %s: %d domains, error %d", short(c), short(l), len(got), e)
		return
	}
	for i, d := range got {
		if !slices.Equal(d.Vals, l[i].Vals) || !dom.May(d) {
			t.Errorf("Step of %s, %s: of %d %s", short(c), short(l), i, short(d))
		}
	}
	if !reflect.DeepEqual(values(got), want) {
		t.Errorf("Step of %s, %s (left %s): leaves %s, not %s", short(c), short(l), short(values(l)), short(values(got)), short(want))
	}
	if !reflect.DeepEqual(c, con) || !reflect.DeepEqual(l, was) {
		t.Errorf("Step of %s, %s: they were %s, %s", short(c), short(l), short(con), short(was))
	}
}

// orders tells orders of the numbers below n: all of up to 4, else some that look thrown.
func orders(n int) [][]int {
	if n > 4 {
		d := dice(n)
		l := [][]int{numbers(0, n-1)}
		for range 24 {
			l = append(l, d.order(n))
		}
		return l
	}
	l := [][]int{{}}
	for i := range n {
		var longer [][]int
		for _, one := range l {
			for at := range i + 1 {
				longer = append(longer, slices.Insert(slices.Clone(one), at, i))
			}
		}
		l = longer
	}
	return l
}

// leaves looks what a step leaves of a constraint's own domains: however these stand, in whichever order the constraint
// names them, and among other domains, all of which stays.
func leaves(t *testing.T, own list, want ...[]int) {
	t.Helper()
	d := dice(len(own))
	for _, order := range orders(len(own)) {
		// The constraint names them in order, but they stand in another one; and the other way round.
		l, wants, vars := make(list, len(own)), make([][]int, len(own)), make([]int, len(own))
		for at, i := range order {
			l[i], wants[i], vars[at] = own[at], want[at], i
		}
		step(t, differ(vars...), l, wants)
		step(t, differ(order...), own, want)
		n := len(own) + 1 + d.upTo(4)
		places := d.order(n)
		wider := make(list, n)
		for i := range wider {
			wider[i] = thrownDom(&d, 3)
		}
		wants = values(wider)
		for at, i := range order {
			vars[at] = places[i]
			wider[vars[at]], wants[vars[at]] = own[at], want[at]
		}
		step(t, differ(vars...), wider, wants)
	}
}

// alike looks whether a step leaves what the chapter's words say.
func alike(t *testing.T, c api.Con, l list) {
	t.Helper()
	want, right := plainStep(c, l)
	if !right {
		t.Errorf("no step of %s, %s", short(c), short(l))
		return
	}
	step(t, c, l, want)
}

// refused looks whether there is no step.
func refused(t *testing.T, c api.Con, l list) {
	t.Helper()
	con, was := copiedCon(c), copied(l)
	if got, e := Step(c, l); e != api.ErrArg || got != nil {
		t.Errorf("Step of %s, %s: %s, error %d", short(c), short(l), short(got), e)
	}
	if !reflect.DeepEqual(c, con) || !reflect.DeepEqual(l, was) {
		t.Errorf("Step of %s, %s: they were %s, %s", short(c), short(l), short(con), short(was))
	}
}

// P15.1: the chapter's two examples.
func TestExamples(t *testing.T) {
	leaves(t, list{run(1, 3), of(2), run(2, 3)}, only(1, 3), only(2), only(3))
	leaves(t, list{run(1, 2), run(1, 2), run(1, 2)}, only(), only(), only())
}

// P15.1: of two variables all, some, and none is left.
func TestTwo(t *testing.T) {
	leaves(t, list{of(1), of(2)}, only(1), only(2))
	leaves(t, list{of(1), of(1)}, only(), only())
	leaves(t, list{of(1), of(1, 2)}, only(1), only(2))
	leaves(t, list{of(2), of(1, 2)}, only(2), only(1))
	leaves(t, list{of(3), of(1, 2)}, only(3), only(1, 2))
	leaves(t, list{of(1, 2), of(1, 2)}, only(1, 2), only(1, 2))
	leaves(t, list{of(2), run(1, 3)}, only(2), only(1, 3))
	leaves(t, list{of(1), run(1, 3)}, only(1), only(2, 3))
	leaves(t, list{of(3), run(1, 3)}, only(3), only(1, 2))
	leaves(t, list{run(0, 9), run(0, 9)}, numbers(0, 9), numbers(0, 9))
	leaves(t, list{run(0, 9), run(5, 14)}, numbers(0, 9), numbers(5, 14))
	leaves(t, list{run(0, 4), run(5, 9)}, numbers(0, 4), numbers(5, 9))
}

// P15.1: fewer values are left, of all variables together, than there are variables; just as many; and more.
func TestTogether(t *testing.T) {
	leaves(t, list{of(1, 2), of(2, 3), of(1, 3)}, only(1, 2), only(2, 3), only(1, 3))
	leaves(t, list{of(1, 2), of(1, 2), of(1)}, only(), only(), only())
	leaves(t, list{of(1, 2), of(1, 2), of(3)}, only(1, 2), only(1, 2), only(3))
	leaves(t, list{of(1, 2), of(1, 2), of(2, 3)}, only(1, 2), only(1, 2), only(2, 3))
	leaves(t, list{of(1, 2), of(1, 2), of(1, 2, 3)}, only(1, 2), only(1, 2), only(1, 2, 3))
	// Three variables of two values are too many, but a step doesn't see that where a fourth one has two more.
	leaves(t, list{of(1, 2), of(1, 2), of(1, 2), of(1, 2, 3)}, nothing(4)...)
	leaves(t, list{of(1, 2), of(1, 2), of(1, 2), of(3, 4)}, only(1, 2), only(1, 2), only(1, 2), only(3, 4))
	leaves(t, list{of(1, 2), of(1, 2), of(1, 2), of(2, 3, 4)}, only(1, 2), only(1, 2), only(1, 2), only(2, 3, 4))
	for n := 2; n <= api.MostTerms; n++ {
		for from := -4; from <= 0; from += 2 {
			leaves(t, times(n, run(from, from+n-2)), nothing(n)...)
			leaves(t, times(n, run(from, from+n-1)), slices.Repeat([][]int{numbers(from, from+n-1)}, n)...)
			leaves(t, times(n, run(from, from+n)), slices.Repeat([][]int{numbers(from, from+n)}, n)...)
		}
		// One variable alone has the last value that is needed.
		l := times(n, run(1, max(n-1, 2)))
		l[n-1] = run(1, n)
		want := values(l)
		leaves(t, l, want...)
		// All have two values, of a ring of just so many.
		ring := list{}
		for i := range n {
			a, b := min(i, (i+1)%n), max(i, (i+1)%n)
			ring = append(ring, of(a, b))
		}
		leaves(t, ring, values(ring)...)
		ring[0] = of(1)
		want = values(ring)
		want[1] = only(2 % n)
		leaves(t, ring, want...)
	}
	// Two have as many values as they need, but all together have too few, or just enough.
	leaves(t, list{of(1, 2), of(2, 3), of(1, 3), of(1, 2, 3)}, nothing(4)...)
	leaves(t, list{of(1, 2), of(2, 3), of(1, 3), of(1, 2, 3, 4)}, only(1, 2), only(2, 3), only(1, 3), only(1, 2, 3, 4))
}

// P15.1: values of variables that aren't named don't count, however many or few there are; all of theirs stays.
func TestOthers(t *testing.T) {
	step(t, differ(0, 1, 2), list{of(1, 2), of(1, 2), of(1, 2), of(3, 4)}, append(nothing(3), only(3, 4)))
	step(t, differ(1, 2, 3), list{run(3, 60), of(1, 2), of(1, 2), of(1, 2)}, append([][]int{numbers(3, 60)}, nothing(3)...))
	step(t, differ(3, 0), list{of(1), of(2), of(3), of(1), of(4)}, [][]int{only(), only(2), only(3), only(), only(4)})
	step(t, differ(0, 2), list{of(1, 2), of(1, 2), of(1, 2)}, [][]int{only(1, 2), only(1, 2), only(1, 2)})
	// Only values of others take nothing away, nor does a step take them away.
	step(t, differ(0, 2), list{of(1, 2), of(1), of(1, 2)}, [][]int{only(1, 2), only(1), only(1, 2)})
	step(t, differ(0, 2), list{of(1, 2), of(1), of(1, 3)}, [][]int{only(1, 2), only(1), only(1, 3)})
	step(t, differ(2, 1), list{of(1), of(1), of(1, 3)}, [][]int{only(1), only(1), only(3)})
	step(t, differ(1, 2), list{run(0, 3), of(1), of(1, 3), of(3)}, [][]int{numbers(0, 3), only(1), only(3), only(3)})
	step(t, differ(3, 1), list{of(5), of(5), of(5), run(4, 6), of(5)}, [][]int{only(5), only(5), only(5), only(4, 6), only(5)})
	// One of which nothing is left is no matter, if it isn't named.
	step(t, differ(0, 2), list{of(1), some(0, 3), of(1, 2)}, [][]int{only(1), only(), only(2)})
	step(t, differ(2, 1), list{{}, of(1, 2), of(1, 2), some(1, 1)}, [][]int{only(), only(1, 2), only(1, 2), only()})
	for n := 2; n <= api.MostTerms; n++ {
		l := append(times(n, run(1, n)), of(1), some(1, 9), run(1, 60), of(n), dom.Dom{})
		step(t, differ(numbers(0, n-1)...), l, values(l))
		l[0] = of(1)
		want := values(l)
		for i := 1; i < n; i++ {
			want[i] = numbers(2, n)
		}
		step(t, differ(numbers(0, n-1)...), l, want)
		backwards := numbers(0, n-1)
		slices.Reverse(backwards)
		step(t, differ(backwards...), l, want)
	}
}

// P15.1: one value left of one variable, at each place: the others lose it, and that one keeps it.
func TestSingle(t *testing.T) {
	for n := 2; n <= api.MostTerms; n++ {
		for at := range n {
			for _, v := range []int{1, 2, n, n + 1} {
				l := times(n, run(1, n+1))
				l[at] = of(v)
				others := slices.DeleteFunc(numbers(1, n+1), func(x int) bool { return x == v })
				want := slices.Repeat([][]int{others}, n)
				want[at] = only(v)
				leaves(t, l, want...)
				// It is one value of many that were there.
				l[at] = some(-3, 20, v)
				leaves(t, l, want...)
			}
			// None of the others has it.
			l := times(n, run(1, n+1))
			l[at] = of(0)
			leaves(t, l, values(l)...)
		}
	}
	leaves(t, list{of(2), of(1, 2), of(2, 3), of(4, 5)}, only(2), only(1), only(3), only(4, 5))
	leaves(t, list{of(2), of(4), run(1, 6), run(3, 4)}, only(2), only(4), only(1, 3, 5, 6), only(3))
	leaves(t, list{of(2), of(4), run(1, 6), of(2, 4)}, only(2), only(4), only(1, 3, 5, 6), only())
}

// P15.1: the only value of one variable is that of another one, too: both lose it, and so do all others.
func TestSame(t *testing.T) {
	leaves(t, list{of(1), of(1), of(2, 3)}, only(), only(), only(2, 3))
	leaves(t, list{of(1), of(1), run(1, 3)}, only(), only(), only(2, 3))
	leaves(t, list{of(1), of(1), of(1, 2)}, nothing(3)...)
	leaves(t, list{of(1), of(1), of(2)}, nothing(3)...)
	leaves(t, list{of(1), of(1), of(1)}, nothing(3)...)
	leaves(t, list{of(1), of(1), of(1), run(1, 4)}, only(), only(), only(), only(2, 3, 4))
	leaves(t, list{of(1), of(1), of(1), run(1, 3)}, nothing(4)...)
	leaves(t, list{of(1), of(1), of(2), run(1, 4)}, only(), only(), only(2), only(3, 4))
	leaves(t, list{of(1), of(1), of(2), of(2), run(1, 5)}, only(), only(), only(), only(), only(3, 4, 5))
	leaves(t, list{of(1), of(1), of(2), of(2), run(1, 4)}, nothing(5)...)
	for n := 3; n <= api.MostTerms; n++ {
		for a := range n {
			for b := range a {
				l := times(n, run(1, n))
				l[a], l[b] = of(2), some(0, 9, 2)
				want := slices.Repeat([][]int{append(only(1), numbers(3, n)...)}, n)
				want[a], want[b] = only(), only()
				leaves(t, l, want...)
			}
		}
	}
}

// P15.1: variables of which one value each is left, all unlike or not, and some of which more are.
func TestSingles(t *testing.T) {
	leaves(t, list{of(1), of(2), run(1, 4), run(2, 5)}, only(1), only(2), only(3, 4), only(3, 4, 5))
	leaves(t, list{of(5), of(-5), of(0), run(-5, 5)}, only(5), only(-5), only(0), only(-4, -3, -2, -1, 1, 2, 3, 4))
	for n := 2; n <= api.MostTerms; n++ {
		var l list
		for i := range n {
			l = append(l, of(3*i-7))
		}
		leaves(t, l, values(l)...)
		for a := range n {
			for b := range n {
				if a == b {
					continue
				}
				alike := slices.Clone(l)
				alike[a] = l[b]
				leaves(t, alike, nothing(n)...)
			}
		}
		leaves(t, times(n, of(4)), nothing(n)...)
		// Of the last one more are left: all but what the others have.
		l[n-1] = run(-7, 20)
		want := values(l)
		want[n-1] = slices.DeleteFunc(numbers(-7, 20), func(v int) bool { return (v+7)%3 == 0 && v < 3*(n-1)-7 })
		leaves(t, l, want...)
		// More of it are left, but each is the only one of another one.
		l[n-1] = of(-7)
		leaves(t, l, nothing(n)...)
		if n > 2 {
			l[n-1] = of(-7, -4)
			leaves(t, l, nothing(n)...)
		}
	}
}

// P15.1: a step is asked of what was left ahead of it: who keeps one value alone by the step itself takes nothing away
// in it, nor does one that keeps none.
func TestAhead(t *testing.T) {
	leaves(t, list{of(1), of(1, 2), of(2, 3)}, only(1), only(2), only(2, 3))
	leaves(t, list{of(1), of(1, 2), of(1, 2, 3)}, only(1), only(2), only(2, 3))
	leaves(t, list{of(1), of(1, 2), of(1, 2), of(3, 4)}, only(1), only(2), only(2), only(3, 4))
	leaves(t, list{of(1), of(1, 2), of(1, 2), run(1, 4)}, only(1), only(2), only(2), only(2, 3, 4))
	// All is kept from one, but the others stay till the next step.
	leaves(t, list{of(1), of(2), of(1, 2), run(1, 4)}, only(1), only(2), only(), only(3, 4))
	// Fewer values are left behind it than there are variables, but not ahead of it.
	leaves(t, list{of(1), of(1), of(2, 3), of(2, 3)}, nothing(4)...)
	leaves(t, list{of(1), of(1), of(2, 3), of(2, 4)}, only(), only(), only(2, 3), only(2, 4))
	for n := 2; n <= api.MostTerms; n++ {
		// A chain, each of whose steps tells one more.
		var l list
		for i := range n {
			l = append(l, of(max(i, 1), i+1))
		}
		l[0] = of(1)
		var want [][]int
		for range n - 1 {
			want, l = values(l), copied(l)
			first := slices.IndexFunc(want, func(v []int) bool { return len(v) > 1 })
			want[first] = want[first][1:]
			leaves(t, l, want...)
			l[first].Live = 2
		}
		leaves(t, l, values(l)...)
	}
}

// P15.1: of domains of which one has nothing left, at each place, nothing is left of any of the constraint's.
func TestWiped(t *testing.T) {
	for _, empty := range []dom.Dom{some(0, 3), some(-31, 32), {}, {Vals: []int{}}, some(0, 0)} {
		for n := 2; n <= api.MostTerms; n++ {
			for at := range n {
				for _, full := range []dom.Dom{run(0, 20), of(4), run(0, 63)} {
					l := times(n, full)
					l[at] = empty
					leaves(t, l, nothing(n)...)
					step(t, differ(numbers(0, n-1)...), append(copied(l), run(0, 4), of(1)), append(nothing(n), numbers(0, 4), only(1)))
				}
				// All others have values of their own.
				var l list
				for i := range n {
					l = append(l, run(5*i, 5*i+4))
				}
				l[at] = empty
				leaves(t, l, nothing(n)...)
			}
			leaves(t, times(n, empty), nothing(n)...)
		}
	}
}

// P15.1: only values that are left count, and are kept: those of a domain that aren't are as if they were none.
func TestLeft(t *testing.T) {
	leaves(t, list{some(0, 9, 1, 2), some(0, 9, 1, 2), some(0, 9, 1, 2)}, nothing(3)...)
	leaves(t, list{some(0, 9, 1, 8), some(0, 9, 1, 8), some(0, 9, 1, 8)}, nothing(3)...)
	leaves(t, list{some(0, 9, 1, 8), some(0, 9, 1, 8), some(0, 9, 1, 9)}, only(1, 8), only(1, 8), only(1, 9))
	leaves(t, list{some(0, 9, 4), some(0, 9, 3, 4, 5), run(0, 9)}, only(4), only(3, 5), only(0, 1, 2, 3, 5, 6, 7, 8, 9))
	leaves(t, list{some(0, 9, 4), some(0, 9, 3, 5), run(0, 9)}, only(4), only(3, 5), only(0, 1, 2, 3, 5, 6, 7, 8, 9))
	leaves(t, list{some(0, 9, 0), some(0, 9, 9), some(0, 9, 0, 5, 9)}, only(0), only(9), only(5))
	leaves(t, list{some(0, 1, 0), some(0, 1, 0, 1)}, only(0), only(1))
	leaves(t, list{some(0, 1, 0), some(0, 1, 0)}, only(), only())
	leaves(t, list{some(0, 1, 0), some(0, 1, 1)}, only(0), only(1))
	// The same places of unlike values are unlike, unlike places of the same value are the same.
	leaves(t, list{of(1, 2), of(3, 4), of(5, 6)}, only(1, 2), only(3, 4), only(5, 6))
	leaves(t, list{some(1, 4, 2), some(2, 5, 3), some(3, 6, 4)}, only(2), only(3), only(4))
	leaves(t, list{some(1, 4, 4), some(2, 5, 4), run(3, 6)}, only(), only(), only(3, 5, 6))
	leaves(t, list{some(1, 4, 4), some(-9, 9, 4, 9), run(4, 6)}, only(4), only(9), only(5, 6))
	// So few are left only because of gaps.
	for n := 2; n <= api.MostTerms; n++ {
		gaps := []int{}
		for i := range n - 1 {
			gaps = append(gaps, 7*i)
		}
		leaves(t, times(n, some(0, 60, gaps...)), nothing(n)...)
		gaps = append(gaps, 60)
		leaves(t, times(n, some(0, 60, gaps...)), slices.Repeat([][]int{gaps}, n)...)
	}
}

// P15.1: values below 0, 0, and above it, the least and the greatest that may be.
func TestNumbers(t *testing.T) {
	leaves(t, list{of(-most), of(most), of(-most, 0, most)}, only(-most), only(most), only(0))
	leaves(t, list{of(-most), of(-most), run(-most, 3-most)}, only(), only(), only(1-most, 2-most, 3-most))
	leaves(t, list{of(most), run(most-3, most), run(-3, 3)}, only(most), only(most-3, most-2, most-1), numbers(-3, 3))
	leaves(t, list{of(-most), of(most)}, only(-most), only(most))
	leaves(t, list{of(-most, most), of(-most, most)}, only(-most, most), only(-most, most))
	leaves(t, list{of(-most, most), of(-most, most), of(-most, most)}, nothing(3)...)
	leaves(t, list{of(0), of(-1, 0, 1)}, only(0), only(-1, 1))
	leaves(t, list{of(0), of(0)}, only(), only())
	leaves(t, list{of(0), of(1)}, only(0), only(1))
	leaves(t, list{of(-3), of(3)}, only(-3), only(3))
	leaves(t, list{of(-3), run(-3, 3)}, only(-3), numbers(-2, 3))
	leaves(t, list{of(-3), of(-3)}, only(), only())
	leaves(t, list{of(-1), of(1), of(0, 1)}, only(-1), only(1), only(0))
	// Numbers that are alike in their last 6, 8, 16 or 20 bits are unlike.
	leaves(t, list{of(1), of(65), of(257), of(1<<16 + 1), of(1 - 1<<20)}, only(1), only(65), only(257), only(1<<16+1), only(1-1<<20))
	leaves(t, list{of(1), of(1, 65), of(1, 257), of(1, 1<<16+1), of(1-1<<20, 1)}, only(1), only(65), only(257), only(1<<16+1), only(1-1<<20))
	leaves(t, list{of(0), of(-most, 0, most), of(0, 64)}, only(0), only(-most, most), only(64))
}

// P15.1: two lists of three or four values, however many of which are left, and all small domains of three variables.
func TestPlainSmall(t *testing.T) {
	for x := range uint64(16) {
		for y := range uint64(16) {
			alike(t, differ(0, 1), list{{Vals: numbers(-1, 2), Live: x}, {Vals: numbers(0, 3), Live: y}})
			alike(t, differ(1, 0), list{{Vals: numbers(-1, 2), Live: x}, {Vals: []int{-1, 0, 2, 3}, Live: y}})
			for z := range uint64(16) {
				vals := numbers(-1, 2)
				l := list{{Vals: vals, Live: x}, {Vals: vals, Live: y}, {Vals: vals, Live: z}}
				alike(t, differ(0, 1, 2), l)
				alike(t, differ(2, 0, 1), l)
				alike(t, differ(2, 0), l)
			}
		}
	}
	vals := numbers(1, 3)
	for live := range uint64(1 << 12) {
		l := list{}
		for i := range 4 {
			l = append(l, dom.Dom{Vals: vals, Live: live >> (3 * i) & 7})
		}
		alike(t, differ(0, 1, 2), l)
		l[3].Vals = []int{0, 2, 4}
		alike(t, differ(3, 1, 2, 0), l)
	}
}

// P15.1: domains of as many values as may be.
func TestMost(t *testing.T) {
	for n := 2; n <= api.MostTerms; n++ {
		for _, low := range []int{-most, -64, -63, -31, -1, 0, 1, most - 63} {
			whole := times(n, run(low, low+63))
			leaves(t, whole, values(whole)...)
			for _, k := range []int{0, 1, 31, 32, 62, 63} {
				l := copied(whole)
				l[n/2].Live = 1 << k
				want := slices.Repeat([][]int{slices.DeleteFunc(numbers(low, low+63), func(v int) bool { return v == low+k })}, n)
				want[n/2] = only(low + k)
				leaves(t, l, want...)
			}
		}
		// Values at the last places alone are left, one fewer than there are variables, and just as many.
		few := times(n, dom.Dom{Vals: numbers(-63, 0), Live: math.MaxUint64 << (64 - (n - 1))})
		leaves(t, few, nothing(n)...)
		enough := times(n, dom.Dom{Vals: numbers(-63, 0), Live: math.MaxUint64 << (64 - n)})
		leaves(t, enough, values(enough)...)
		// All have values of their own.
		var apart list
		for i := range n {
			apart = append(apart, run(100*i, 100*i+63))
		}
		leaves(t, apart, values(apart)...)
	}
	d := dice(4)
	for range 600 {
		n := 2 + d.upTo(7)
		var l list
		for range n {
			one := run(0, 63)
			for k := range one.Vals {
				one.Vals[k] = k*(1+k%3) - d.upTo(2)
			}
			slices.Sort(one.Vals)
			one.Vals = slices.Compact(one.Vals)
			one.Live = (uint64(d.upTo(1<<30))<<34 | uint64(d.upTo(1<<30))<<4) & (uint64(1)<<len(one.Vals) - 1)
			if d.upTo(3) == 0 {
				one.Live = 1 << d.upTo(len(one.Vals))
			}
			l = append(l, one)
		}
		alike(t, differ(d.order(n)...), l)
	}
}

// P15.1: variables in all orders, each with a domain of its own, so that no two can stand for each other.
func TestOrders(t *testing.T) {
	l := list{of(3), run(2, 4), some(-9, 9, 3, 4, 6), of(3, 7), of(4), of(4, 9, 30)}
	for n := 2; n <= len(l); n++ {
		for _, order := range orders(n) {
			for more := 0; more+n <= len(l); more++ {
				vars := slices.Clone(order)
				for at := range vars {
					vars[at] += more
				}
				alike(t, differ(vars...), l)
			}
		}
	}
}

// P15.1: thrown constraints and domains, some of which may not be, as the chapter's words have it.
func TestPlainThrown(t *testing.T) {
	d := dice(5)
	told := map[string]int{}
	for range 30000 {
		n := 2 + d.upTo(7)
		c, l := thrown(&d, n, n+d.upTo(4), 60)
		switch d.upTo(16) {
		case 0:
			l = l[:d.upTo(len(l))]
		case 1:
			l[d.upTo(len(l))].Live = 1 << d.upTo(64)
		case 2:
			c.Kind = d.upTo(9) - 1
		case 3:
			c.Vars = c.Vars[:len(c.Vars)-d.upTo(2)]
			c.Rel = d.of(0, 0, 0, 1, -1)
		case 4:
			c.Vars[d.upTo(len(c.Vars))] = d.upTo(len(l)+1) - 1
		}
		want, right := plainStep(c, l)
		if !right {
			refused(t, c, l)
			told["none"]++
			continue
		}
		step(t, c, l, want)
		for _, i := range c.Vars {
			switch {
			case len(left(l[i])) == 0:
				told["empty"]++
			case len(want[i]) == len(left(l[i])):
				told["all"]++
			case len(want[i]) == 0:
				told["wiped"]++
			default:
				told["some"]++
			}
		}
	}
	for _, s := range []string{"none", "empty", "all", "wiped", "some"} {
		if told[s] < 1000 {
			t.Errorf("too few of %s: %d", s, told[s])
		}
	}
}

// P15.1: constraints that need more variables than there are domains, and just as many.
func TestStepVars(t *testing.T) {
	c, l := differ(0, 1), times(2, run(0, 1))
	refused(t, c, nil)
	refused(t, c, list{})
	refused(t, c, l[:1])
	step(t, c, l, values(l))
	for n := 2; n <= api.MostTerms; n++ {
		all := differ(numbers(0, n-1)...)
		for count := range n {
			refused(t, all, times(count, run(0, 9)))
		}
		step(t, all, times(n, run(0, 9)), slices.Repeat([][]int{numbers(0, 9)}, n))
		for place := n - 1; place < 22; place++ {
			for at := range n {
				// The others are the first ones.
				one := differ(numbers(0, n-2)...)
				one.Vars = slices.Insert(one.Vars, at, place)
				refused(t, one, nil)
				refused(t, one, times(1, run(0, 9)))
				refused(t, one, times(max(place-1, 0), run(0, 9)))
				refused(t, one, times(place, run(0, 9)))
				for more := 1; more < 4; more++ {
					l := times(place+more, run(0, 9))
					l[place] = of(4)
					want := values(l)
					for i := range n - 1 {
						want[i] = only(0, 1, 2, 3, 5, 6, 7, 8, 9)
					}
					step(t, one, l, want)
				}
			}
		}
	}
}

// P15.1: constraints that may not be, or are of another kind.
func TestStepCons(t *testing.T) {
	l := times(12, run(0, 9))
	good := differ(0, 1, 2)
	step(t, good, l, values(l))
	for _, c := range []api.Con{
		{},
		{Kind: api.Differ},
		{Kind: api.Differ, Vars: []int{0}},
		{Kind: api.Differ, Vars: []int{0, 1}, Nums: []int{0, 1}},
		{Kind: api.Linear, Vars: []int{0, 1}, Coefs: []int{1, 1}},
		{Kind: api.Linear, Vars: []int{0, 1}, Coefs: []int{1, -1}, Rel: api.NE},
		{Kind: api.Product, Vars: []int{0, 1, 2}},
		{Kind: api.Iff, Vars: []int{0, 1}, Coefs: []int{1}},
		{Kind: api.Element, Vars: []int{0, 1}, Nums: []int{1}},
		{Kind: api.Table, Vars: []int{0, 1}, Nums: []int{1, 1}},
		{Kind: api.Table, Vars: []int{0, 1}},
		{Vars: []int{0, 1}},
	} {
		refused(t, c, l)
		refused(t, c, nil)
	}
	for i, spoil := range []func(c *api.Con){
		func(c *api.Con) { c.Kind = 0 },
		func(c *api.Con) { c.Kind = -1 },
		func(c *api.Con) { c.Kind = 7 },
		func(c *api.Con) { c.Kind = api.Linear },
		func(c *api.Con) { c.Kind = api.Product },
		func(c *api.Con) { c.Kind = api.Iff },
		func(c *api.Con) { c.Kind, c.Vars, c.Nums = api.Element, c.Vars[:2], []int{1} },
		func(c *api.Con) { c.Kind = api.Table },
		func(c *api.Con) { c.Kind, c.Coefs = api.Linear, []int{1, 1, 1} },
		func(c *api.Con) { c.Kind, c.Coefs = api.Iff, []int{1, 1} },
		func(c *api.Con) { c.Kind = -api.Differ },
		func(c *api.Con) { c.Kind = math.MinInt },
		func(c *api.Con) { c.Kind = math.MaxInt },
		func(c *api.Con) { c.Kind += 1 << 32 },
		func(c *api.Con) { c.Kind += 1 << 8 },
		func(c *api.Con) { c.Vars = nil },
		func(c *api.Con) { c.Vars = []int{} },
		func(c *api.Con) { c.Vars = c.Vars[:1] },
		func(c *api.Con) { c.Vars = c.Vars[2:] },
		func(c *api.Con) { c.Vars = numbers(0, 8) },
		func(c *api.Con) { c.Vars = numbers(0, 11) },
		func(c *api.Con) { c.Vars = make([]int, 5000) },
		func(c *api.Con) { c.Vars[1] = c.Vars[0] },
		func(c *api.Con) { c.Vars[2] = c.Vars[0] },
		func(c *api.Con) { c.Vars[2] = c.Vars[1] },
		func(c *api.Con) { c.Vars = []int{3, 3} },
		func(c *api.Con) { c.Vars = append(numbers(0, 6), 0) },
		func(c *api.Con) { c.Vars = append(numbers(0, 6), 6) },
		func(c *api.Con) { c.Vars[0] = -1 },
		func(c *api.Con) { c.Vars[1] = -1 },
		func(c *api.Con) { c.Vars[2] = -1 },
		func(c *api.Con) { c.Vars[0] = 12 },
		func(c *api.Con) { c.Vars[1] = 12 },
		func(c *api.Con) { c.Vars[2] = 12 },
		func(c *api.Con) { c.Vars[0] = math.MinInt },
		func(c *api.Con) { c.Vars[2] = math.MinInt },
		func(c *api.Con) { c.Vars[0] = math.MaxInt },
		func(c *api.Con) { c.Vars[2] = math.MaxInt },
		func(c *api.Con) { c.Vars[1] = 1 << 32 },
		func(c *api.Con) { c.Nums = []int{0} },
		func(c *api.Con) { c.Nums = []int{1, 2, 3} },
		func(c *api.Con) { c.Nums = make([]int, 96) },
		func(c *api.Con) { c.Nums = make([]int, 5000) },
		func(c *api.Con) { c.Coefs = []int{0} },
		func(c *api.Con) { c.Coefs = []int{1, 1} },
		func(c *api.Con) { c.Coefs = []int{1, 1, 1} },
		func(c *api.Con) { c.Rel = 1 },
		func(c *api.Con) { c.Rel = -1 },
		func(c *api.Con) { c.Rel = 5 },
		func(c *api.Con) { c.Rel = math.MinInt },
		func(c *api.Con) { c.Const = 1 },
		func(c *api.Con) { c.Const = -1 },
		func(c *api.Con) { c.Const = math.MaxInt },
	} {
		c := copiedCon(good)
		spoil(&c)
		if _, e := Step(c, l); e != api.ErrArg {
			t.Errorf("fault %d: error %d", i, e)
		}
		refused(t, c, l)
		refused(t, c, nil)
		refused(t, c, times(12, dom.Dom{}))
	}
	// As many variables as may be, and one more.
	step(t, differ(numbers(0, 7)...), l, values(l))
	step(t, differ(11, 4, 6, 0, 9, 2, 1, 8), l, values(l))
	refused(t, differ(numbers(0, 8)...), l)
	// As few as may be, and one fewer.
	step(t, differ(11, 4), l, values(l))
	refused(t, differ(4), l)
}

// wrongs are domains that may not be, each for one reason.
func wrongs() list {
	return list{
		{Vals: []int{2, 1}, Live: 3}, {Vals: []int{1, 1}, Live: 1}, {Vals: []int{1, 3, 2}}, {Vals: []int{0, 1, 1}, Live: 3},
		{Vals: []int{most + 1}, Live: 1}, {Vals: []int{-most - 1}, Live: 1}, {Vals: []int{0, most + 1}, Live: 1}, {Vals: []int{-most - 1, 0}},
		{Vals: []int{math.MinInt}, Live: 1}, {Vals: []int{math.MaxInt}, Live: 1}, {Vals: []int{0, math.MaxInt, math.MinInt}, Live: 7},
		{Live: 1}, {Vals: []int{}, Live: 1}, {Live: math.MaxUint64}, {Vals: []int{0, 1}, Live: 4}, {Vals: []int{0, 1}, Live: 7},
		{Vals: []int{0, 1}, Live: 1 << 63}, {Vals: numbers(0, 62), Live: math.MaxUint64},
		{Vals: numbers(0, 64), Live: math.MaxUint64}, {Vals: numbers(0, 64)}, {Vals: numbers(-500, 500), Live: 1},
	}
}

// P15.1: domains that may not be, of each variable of the constraint, and of others.
func TestStepDoms(t *testing.T) {
	c := differ(3, 1, 4)
	for _, wrong := range wrongs() {
		for at := range 6 {
			for _, other := range []dom.Dom{run(0, 3), of(0), some(0, 1), {}} {
				l := times(6, other)
				l[at] = wrong
				refused(t, c, l)
				refused(t, api.Con{Kind: api.Element, Vars: []int{0, 1}, Nums: []int{0}}, l)
				refused(t, differ(3, 1, 6), l)
			}
		}
	}
	refused(t, c, times(6, wrongs()[0]))
	step(t, c, times(6, run(0, 3)), slices.Repeat([][]int{numbers(0, 3)}, 6))
}

// within tells whether all numbers of each list are of the other's, too.
func within(a, b [][]int) bool {
	for i, l := range a {
		for _, v := range l {
			if !slices.Contains(b[i], v) {
				return false
			}
		}
	}
	return len(a) == len(b)
}

// rows tells all rows of values, one of each list.
func rows(own [][]int) [][]int {
	l := [][]int{{}}
	for _, values := range own {
		var longer [][]int
		for _, row := range l {
			for _, v := range values {
				longer = append(longer, append(slices.Clone(row), v))
			}
		}
		l = longer
	}
	return l
}

// P15.2: no row that holds, and whose values are left, loses one.
func TestRows(t *testing.T) {
	d := dice(13)
	held, lost := 0, 0
	for range 12000 {
		n := 2 + d.upTo(7)
		c, l := thrown(&d, n, n+d.upTo(3), 200)
		got, e := Step(c, l)
		if e != api.OK {
			t.Errorf("Step of %s, %s: error %d", short(c), short(l), e)
			continue
		}
		own, kept, count := ownOf(c, l), ownOf(c, got), 1
		for _, values := range own {
			count *= len(values)
		}
		if count > 1500 {
			continue
		}
		whole := make([]int, len(l))
		for _, row := range rows(own) {
			for at, i := range c.Vars {
				whole[i] = row[at]
			}
			if !ground.Holds(c, whole) {
				continue
			}
			held++
			for at, v := range row {
				if !slices.Contains(kept[at], v) {
					t.Errorf("Step of %s, %s: keeps %s, but %v holds", short(c), short(l), short(kept), row)
				}
			}
		}
		if !reflect.DeepEqual(own, kept) {
			lost++
		}
	}
	if held < 10000 || lost < 1500 {
		t.Errorf("%d rows hold, %d times less is left", held, lost)
	}
}

// P15.2: what a step leaves was left ahead of it; of less, less is left.
func TestLess(t *testing.T) {
	d := dice(17)
	fewer := 0
	for range 12000 {
		n := 2 + d.upTo(7)
		c, l := thrown(&d, n, n+d.upTo(3), 80)
		more, e := Step(c, l)
		if e != api.OK || !within(values(more), values(l)) {
			t.Errorf("Step of %s, %s: %s, error %d", short(c), short(l), short(more), e)
		}
		less := copied(l)
		for range 1 + d.upTo(4) {
			one := &less[c.Vars[d.upTo(n)]]
			one.Live &= ^(1 << d.upTo(len(one.Vals)))
		}
		got, e := Step(c, less)
		if e != api.OK || !within(values(got), values(more)) {
			t.Errorf("Step of %s: of %s leaves %s, of %s %s", short(c), short(values(l)), short(values(more)), short(values(less)), short(values(got)))
		}
		if !reflect.DeepEqual(values(got), values(more)) {
			fewer++
		}
	}
	if fewer < 1000 {
		t.Errorf("%d times less was left of less", fewer)
	}
}

// P15.2: what is left of single values is all, just if the constraint holds of them; else it is none.
func TestRowsOfSingles(t *testing.T) {
	d := dice(19)
	told := map[bool]int{}
	for range 12000 {
		n := 2 + d.upTo(7)
		c, l := thrown(&d, n, n+d.upTo(3), 1<<30)
		row := make([]int, len(l))
		for i := range l {
			k := d.upTo(len(l[i].Vals))
			row[i], l[i].Live = l[i].Vals[k], 1<<k
		}
		if d.upTo(2) == 0 {
			for at, v := range d.order(n) {
				row[c.Vars[at]], l[c.Vars[at]] = v-3, of(v-3)
			}
		}
		want := values(l)
		holds := ground.Holds(c, row)
		if !holds {
			for _, i := range c.Vars {
				want[i] = only()
			}
		}
		step(t, c, l, want)
		told[holds]++
	}
	if told[true] < 3000 || told[false] < 3000 {
		t.Errorf("%v", told)
	}
}

// P15.2: of all single values about 0, and at the ends.
func TestRowsOfSinglesSmall(t *testing.T) {
	for _, l := range [][]int{{-most, -256, -64, -2, -1, 0, 1, 2, 63, 64, 256, most}, {-1, 0, 1}} {
		for n := 2; n <= 3; n++ {
			c := differ(numbers(0, n-1)...)
			for _, row := range rows(slices.Repeat([][]int{l}, n)) {
				var one list
				for _, v := range row {
					one = append(one, of(v))
				}
				want := values(one)
				if !ground.Holds(c, row) {
					want = nothing(n)
				}
				step(t, c, one, want)
			}
		}
	}
}

// spoilt fills all memory that domains have with other things, to its last place.
func spoilt(l list) {
	for i := range l {
		vals := l[i].Vals[:cap(l[i].Vals)]
		for k := range vals {
			vals[k] = 777
		}
	}
	l = l[:cap(l)]
	for i := range l {
		l[i] = dom.Dom{Vals: []int{888}, Live: 9}
	}
}

// P15.1, R3, R4: answers share no memory with an argument, nor with another answer, nor within themselves.
func TestShared(t *testing.T) {
	d := dice(29)
	for range 3000 {
		c, l := thrown(&d, 2+d.upTo(5), 6, 30)
		for i := range l {
			// There is room behind the last value.
			l[i].Vals = append(make([]int, 0, len(l[i].Vals)+3), l[i].Vals...)
		}
		// Two variables may have their values in the same place.
		l[d.upTo(6)] = l[d.upTo(6)]
		l = append(make(list, 0, 12), l...)
		con, was := copiedCon(c), copied(l)
		first, _ := Step(c, l)
		second, _ := Step(c, l)
		kept := copied(first)
		if !reflect.DeepEqual(first, second) {
			t.Errorf("Step of %s, %s: another time %s, not %s", short(c), short(l), short(second), short(first))
		}
		spoilt(second)
		if !reflect.DeepEqual(first, kept) || !reflect.DeepEqual(l, was) || !reflect.DeepEqual(c, con) {
			t.Errorf("Step of %s, %s: shared with the answer of another call", short(con), short(was))
		}
		for i := range first {
			vals := first[i].Vals[:cap(first[i].Vals)]
			for k := range vals {
				vals[k] = 777
			}
			if !reflect.DeepEqual(first[i+1:], kept[i+1:]) {
				t.Errorf("Step of %s, %s: what %d has is shared", short(con), short(was), i)
			}
		}
		spoilt(first)
		if !reflect.DeepEqual(l, was) || !reflect.DeepEqual(c, con) {
			t.Errorf("Step of %s, %s: now they are %s, %s", short(con), short(was), short(c), short(l))
		}
		third, _ := Step(c, l)
		for i := range c.Vars {
			c.Vars[i] = 999
		}
		spoilt(l)
		if !reflect.DeepEqual(third, kept) {
			t.Errorf("Step of %s, %s: the answer became %s", short(con), short(was), short(third))
		}
	}
}

// P15.1, R3: of domains whose values stand in one place, which may be that of the constraint's variables, too.
func TestSharedNumbers(t *testing.T) {
	nums := numbers(0, 3)
	l := list{{Vals: nums, Live: 0b0010}, {Vals: nums, Live: 0b0110}, {Vals: nums, Live: 0b1111}, {Vals: nums, Live: 0b1010}}
	step(t, differ(nums...), l, [][]int{only(1), only(2), only(0, 2, 3), only(3)})
	step(t, api.Con{Kind: api.Differ, Vars: nums}, l, [][]int{only(1), only(2), only(0, 2, 3), only(3)})
	got, _ := Step(api.Con{Kind: api.Differ, Vars: nums}, l)
	spoilt(got)
	if !slices.Equal(nums, numbers(0, 3)) {
		t.Errorf("the values became %v", nums)
	}
}

// R6: no values are no values, whether there is a list of them or not.
func TestEmpty(t *testing.T) {
	c := differ(1, 2)
	c.Coefs, c.Nums = []int{}, []int{}
	step(t, c, list{{}, of(1), of(1, 2)}, [][]int{only(), only(1), only(2)})
	for _, none := range []dom.Dom{{}, {Vals: []int{}}, {Vals: []int{1}[:0]}} {
		step(t, c, list{none, run(0, 3), run(2, 3)}, [][]int{only(), numbers(0, 3), only(2, 3)})
		step(t, c, list{run(0, 3), none, run(2, 3)}, [][]int{numbers(0, 3), only(), only()})
		step(t, c, list{run(0, 3), run(0, 3), none}, [][]int{numbers(0, 3), only(), only()})
		step(t, c, list{none, none, none}, nothing(3))
	}
}

// R1: every call ends and none panics, of very many domains, and of numbers at the ends of int.
func TestGreat(t *testing.T) {
	many := times(1<<16, run(0, 3))
	last := differ(1<<16-1, 7)
	want := values(many)
	many[7] = of(2)
	want[7], want[1<<16-1] = only(2), only(0, 1, 3)
	step(t, last, many, want)
	last.Vars[0] = 1 << 16
	refused(t, last, many)
	numbers := []int{math.MinInt, math.MaxInt, -1, 0, 1, 2, 3, most, 1 << 40}
	d := dice(31)
	stepped := 0
	for range 100000 {
		c := api.Con{Kind: d.of(5, 5, 5, 5, d.of(numbers...)), Rel: d.of(0, 0, 0, 0, 0, d.of(numbers...)), Const: d.of(0, 0, 0, 0, 0, d.of(numbers...))}
		for range d.of(2, 2, 3, 3, 4, 1, 9) {
			c.Vars = append(c.Vars, d.of(0, 1, 2, 3, 4, d.of(numbers...)))
		}
		for range d.of(0, 0, 0, 0, 0, 1) {
			c.Coefs = append(c.Coefs, d.of(numbers...))
		}
		for range d.of(0, 0, 0, 0, 0, 1) {
			c.Nums = append(c.Nums, d.of(numbers...))
		}
		var l list
		for range d.of(5, 5, 4, 3, 2, 0) {
			var a dom.Dom
			for range d.upTo(4) {
				a.Vals = append(a.Vals, d.of(-2, -1, 0, 1, 2, 4, most, -most, d.of(numbers...)))
			}
			if d.upTo(8) > 0 {
				slices.Sort(a.Vals)
				a.Vals = slices.Compact(a.Vals)
			}
			a.Live = uint64(1)<<len(a.Vals) - 1
			if d.upTo(8) == 0 {
				a.Live = uint64(d.of(0, 1, 3, 7, 7, d.of(numbers...)))
			}
			l = append(l, a)
		}
		if want, right := plainStep(c, l); right {
			step(t, c, l, want)
			stepped++
		} else {
			refused(t, c, l)
		}
	}
	if stepped < 1000 {
		t.Errorf("just %d steps", stepped)
	}
}
