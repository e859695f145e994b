package table

import (
	"fmt"
	"math"
	"reflect"
	"slices"
	"testing"

	"stratagem/api"
	"stratagem/dom"
	"stratagem/ground"
)

// most is the greatest number.
const most = api.MostNum

// list is a short name of domains.
type list = []dom.Dom

// of is a domain of values, all left.
func of(vals ...int) dom.Dom {
	return dom.Dom{Vals: vals, Live: uint64(1)<<len(vals) - 1}
}

// run is a domain of all values from low to high, all left.
func run(low, high int) dom.Dom {
	return of(numbers(low, high)...)
}

// some is a domain of all values from low to high, of which just some are left.
func some(low, high int, left ...int) dom.Dom {
	d := dom.Dom{Vals: numbers(low, high)}
	for _, v := range left {
		d.Live |= 1 << (v - low)
	}
	return d
}

// numbers are those from low to high.
func numbers(low, high int) []int {
	l := []int{}
	for v := low; v <= high; v++ {
		l = append(l, v)
	}
	return l
}

// only is a list of numbers; of none it isn't nil.
func only(l ...int) []int {
	return append([]int{}, l...)
}

// nothing is so many lists of no number.
func nothing(n int) [][]int {
	return slices.Repeat([][]int{only()}, n)
}

// times is so many domains, each like one.
func times(n int, d dom.Dom) list {
	var l list
	for range n {
		l = append(l, dom.Dom{Vals: slices.Clone(d.Vals), Live: d.Live})
	}
	return l
}

// table is the constraint that some variables, in order, have the values of a row.
func table(vars []int, rows ...[]int) api.Con {
	return api.Con{Kind: api.Table, Vars: vars, Nums: slices.Concat(rows...)}
}

// copied is the same domains, with memory of their own.
func copied(l list) list {
	if l == nil {
		return nil
	}
	c := make(list, len(l))
	for i, d := range l {
		c[i] = dom.Dom{Vals: slices.Clone(d.Vals), Live: d.Live}
	}
	return c
}

// copiedCon is the same constraint, with memory of its own.
func copiedCon(c api.Con) api.Con {
	c.Vars, c.Coefs, c.Nums = slices.Clone(c.Vars), slices.Clone(c.Coefs), slices.Clone(c.Nums)
	return c
}

// values tells what is left of domains.
func values(l list) [][]int {
	all := [][]int{}
	for _, d := range l {
		all = append(all, left(d))
	}
	return all
}

// short tells a thing as some words, however great it is.
func short(x any) string {
	s := fmt.Sprint(x)
	return s[:min(len(s), 400)]
}

// step looks what a step leaves, and that it changes nothing else.
func step(t *testing.T, c api.Con, l list, want [][]int) {
	t.Helper()
	con, was := copiedCon(c), copied(l)
	got, e := Step(c, l)
	if e != api.OK || len(got) != len(l) {
		t.Errorf("Step of %s, %s: %d domains, error %d", short(c), short(l), len(got), e)
		return
	}
	for i, d := range got {
		if !slices.Equal(d.Vals, l[i].Vals) || !dom.May(d) {
			t.Errorf("Step of %s, %s: of %d %s", short(c), short(l), i, short(d))
		}
	}
	if !reflect.DeepEqual(values(got), want) {
		t.Errorf("Step of %s, %s (left %s): leaves %s, not %s", short(c), short(l), short(values(l)), short(values(got)), short(want))
	}
	if !reflect.DeepEqual(c, con) || !reflect.DeepEqual(l, was) {
		t.Errorf("Step of %s, %s: they were %s, %s", short(c), short(l), short(con), short(was))
	}
}

// orders tells orders of the numbers below n: all of up to 4, else some that look thrown.
func orders(n int) [][]int {
	if n > 4 {
		d := dice(n)
		l := [][]int{numbers(0, n-1)}
		for range 24 {
			l = append(l, d.order(n))
		}
		return l
	}
	l := [][]int{{}}
	for i := range n {
		var longer [][]int
		for _, one := range l {
			for at := range i + 1 {
				longer = append(longer, slices.Insert(slices.Clone(one), at, i))
			}
		}
		l = longer
	}
	return l
}

// turned is rows whose columns stand in another order.
func turned(rows [][]int, order []int) [][]int {
	var l [][]int
	for _, row := range rows {
		var one []int
		for _, at := range order {
			one = append(one, row[at])
		}
		l = append(l, one)
	}
	return l
}

// mixed is rows in another order.
func mixed(d *dice, rows [][]int) [][]int {
	var l [][]int
	for _, k := range d.order(len(rows)) {
		l = append(l, rows[k])
	}
	return l
}

// leaves looks what a step leaves of a constraint's own domains: however these stand, in whichever order the constraint
// names them, and has its rows, and among other domains, all of which stays.
func leaves(t *testing.T, rows [][]int, own list, want ...[]int) {
	t.Helper()
	d := dice(len(own))
	for _, order := range orders(len(own)) {
		// The constraint names them in order, but they stand in another one; and the other way round.
		l, wants, vars := make(list, len(own)), make([][]int, len(own)), make([]int, len(own))
		for at, i := range order {
			l[i], wants[i], vars[at] = own[at], want[at], i
		}
		step(t, table(vars, rows...), l, wants)
		step(t, table(order, mixed(&d, turned(rows, order))...), own, want)
		n := len(own) + 1 + d.upTo(4)
		places := d.order(n)
		wider := make(list, n)
		for i := range wider {
			wider[i] = thrownDom(&d, 3)
		}
		wants = values(wider)
		for at, i := range order {
			vars[at] = places[i]
			wider[vars[at]], wants[vars[at]] = own[at], want[at]
		}
		step(t, table(vars, mixed(&d, rows)...), wider, wants)
	}
}

// alike looks whether a step leaves what the chapter's words say.
func alike(t *testing.T, c api.Con, l list) {
	t.Helper()
	want, right := plainStep(c, l)
	if !right {
		t.Errorf("no step of %s, %s", short(c), short(l))
		return
	}
	step(t, c, l, want)
}

// refused looks whether there is no step.
func refused(t *testing.T, c api.Con, l list) {
	t.Helper()
	con, was := copiedCon(c), copied(l)
	if got, e := Step(c, l); e != api.ErrArg || got != nil {
		t.Errorf("Step of %s, %s: %s, error %d", short(c), short(l), short(got), e)
	}
	if !reflect.DeepEqual(c, con) || !reflect.DeepEqual(l, was) {
		t.Errorf("Step of %s, %s: they were %s, %s", short(c), short(l), short(con), short(was))
	}
}

// rowsOf is rows, each of so many of some numbers.
func rowsOf(width int, nums ...int) [][]int {
	var l [][]int
	for row := range slices.Chunk(nums, width) {
		l = append(l, slices.Clone(row))
	}
	return l
}

// P16.1: the chapter's example.
func TestExample(t *testing.T) {
	leaves(t, rowsOf(2, 1, 2, 3, 4), list{run(1, 3), run(2, 3)}, only(1), only(2))
}

// P16.1: of two variables all, some, and none is left.
func TestTwo(t *testing.T) {
	rows := rowsOf(2, 1, 5, 2, 7, 3, 5, 2, 6)
	leaves(t, rows, list{run(1, 3), run(5, 7)}, only(1, 2, 3), only(5, 6, 7))
	leaves(t, rows, list{run(0, 9), run(0, 9)}, only(1, 2, 3), only(5, 6, 7))
	leaves(t, rows, list{of(1, 3), of(5)}, only(1, 3), only(5))
	leaves(t, rows, list{of(1, 3), run(5, 7)}, only(1, 3), only(5))
	leaves(t, rows, list{of(2), run(5, 7)}, only(2), only(6, 7))
	leaves(t, rows, list{of(2), of(5)}, only(), only())
	leaves(t, rows, list{of(1, 3), of(6, 7)}, only(), only())
	leaves(t, rows, list{of(1, 2), of(5, 6)}, only(1, 2), only(5, 6))
	leaves(t, rows, list{of(1, 2), of(6)}, only(2), only(6))
	leaves(t, rows, list{of(0, 4), run(5, 7)}, only(), only())
	leaves(t, rows, list{run(1, 3), run(0, 4)}, only(), only())
	leaves(t, rows, list{run(-5, 1), run(5, 20)}, only(1), only(5))
	// A value that stands in the row at the other variable's place is kept for no sake of that.
	leaves(t, rowsOf(2, 1, 2, 3, 4), list{run(1, 4), run(1, 4)}, only(1, 3), only(2, 4))
	leaves(t, rowsOf(2, 1, 2), list{run(1, 2), run(1, 2)}, only(1), only(2))
	leaves(t, rowsOf(2, 1, 2), list{of(2), of(1)}, only(), only())
	leaves(t, rowsOf(2, 1, 2, 2, 3), list{of(1, 3), of(2, 3)}, only(1), only(2))
	leaves(t, rowsOf(2, 1, 2, 2, 1), list{of(1, 2), of(1, 2)}, only(1, 2), only(1, 2))
	leaves(t, rowsOf(2, 1, 2, 2, 1), list{of(1, 2), of(1)}, only(2), only(1))
	leaves(t, rowsOf(2, 1, 1, 2, 2), list{of(1, 2), of(1, 2)}, only(1, 2), only(1, 2))
	leaves(t, rowsOf(2, 1, 1, 2, 2), list{of(1), of(2)}, only(), only())
}

// P16.1: of one variable just the numbers are left.
func TestOne(t *testing.T) {
	leaves(t, rowsOf(1, 5), list{run(0, 9)}, only(5))
	leaves(t, rowsOf(1, 5), list{of(5)}, only(5))
	leaves(t, rowsOf(1, 5), list{of(4, 6)}, only())
	leaves(t, rowsOf(1, 7, 2, 4), list{run(0, 9)}, only(2, 4, 7))
	leaves(t, rowsOf(1, 7, 2, 7, 4, 4), list{run(3, 9)}, only(4, 7))
	leaves(t, rowsOf(1, 7, 2, 7, 4, 4), list{some(0, 9, 1, 4, 9)}, only(4))
	leaves(t, nil, list{run(0, 9)}, only())
	leaves(t, rowsOf(1, numbers(-40, 55)...), list{run(-50, 13)}, numbers(-40, 13))
	leaves(t, rowsOf(1, numbers(-40, 55)...), list{run(0, 63)}, numbers(0, 55))
	leaves(t, rowsOf(1, numbers(-40, 55)...), list{run(-9, 54)}, numbers(-9, 54))
	for _, n := range numbers(-40, 55) {
		leaves(t, rowsOf(1, numbers(-40, 55)...), list{of(-41, n, 56)}, only(n))
	}
}

// P16.1: as many variables as may be, and each count below.
func TestMany(t *testing.T) {
	for n := 1; n <= api.MostTerms; n++ {
		var l list
		var ten, twenty []int
		var first, second, both [][]int
		for i := range n {
			l, ten, twenty = append(l, run(10*i, 10*i+29)), append(ten, 10*i+10), append(twenty, 10*i+20)
			first, second, both = append(first, only(10*i+10)), append(second, only(10*i+20)), append(both, only(10*i+10, 10*i+20))
		}
		leaves(t, [][]int{ten, twenty}, l, both...)
		leaves(t, [][]int{ten}, l, first...)
		// One number of a row isn't left of the variable at its place: first, last, or between.
		for at := range n {
			for _, one := range []dom.Dom{
				run(10*at+11, 10*at+29), of(10*at+9, 10*at+11, 10*at+20), of(10*at + 20), some(10*at, 10*at+29, 10*at+20, 10*at+11),
			} {
				less := copied(l)
				less[at] = one
				leaves(t, [][]int{ten, twenty}, less, second...)
				leaves(t, [][]int{ten}, less, nothing(n)...)
				leaves(t, [][]int{ten, ten, ten}, less, nothing(n)...)
				// Another row has its other numbers, too.
				again := slices.Clone(ten)
				again[at] = 10*at + 20
				want := slices.Clone(first)
				want[at] = only(10*at + 20)
				leaves(t, [][]int{ten, again}, less, want...)
				leaves(t, [][]int{again, ten}, less, want...)
				want = slices.Clone(both)
				want[at] = only(10*at + 20)
				leaves(t, [][]int{ten, again, twenty}, less, want...)
			}
		}
	}
}

// P16.1: no rows at all, one row, and as many as may be.
func TestCounts(t *testing.T) {
	for n := 1; n <= api.MostTerms; n++ {
		leaves(t, nil, times(n, run(-3, 3)), nothing(n)...)
		leaves(t, nil, times(n, of(0)), nothing(n)...)
		leaves(t, nil, times(n, run(0, 63)), nothing(n)...)
		leaves(t, [][]int{make([]int, n)}, times(n, run(-3, 3)), slices.Repeat([][]int{only(0)}, n)...)
		leaves(t, [][]int{make([]int, n)}, times(n, of(1)), nothing(n)...)
		most := api.MostNums / n
		var rows [][]int
		for k := range most {
			row := slices.Repeat([]int{k}, n)
			row[n-1] = -k
			rows = append(rows, row)
		}
		// Each row alone, the first one and the last one among them, and those about it.
		for k := range most {
			l := times(n, of(k))
			l[n-1] = of(-k)
			leaves(t, rows, l, values(l)...)
			low := min(max(0, k-30), most-1)
			l = times(n, run(low, low+63))
			l[n-1] = of(-k)
			want := slices.Repeat([][]int{only(k)}, n)
			want[n-1] = only(-k)
			leaves(t, rows, l, want...)
		}
		// All of them.
		high := min(most-1, 63)
		l := times(n, run(0, high))
		l[n-1] = run(-high, 0)
		leaves(t, rows, l, values(l)...)
		// All rows are the same one.
		rows = slices.Repeat([][]int{slices.Repeat([]int{4}, n)}, most)
		leaves(t, rows, times(n, run(0, 9)), slices.Repeat([][]int{only(4)}, n)...)
		leaves(t, rows, times(n, of(3, 5)), nothing(n)...)
	}
}

// P16.1: a row that stands twice, and rows of which some are alike in all places but one.
func TestTwice(t *testing.T) {
	leaves(t, rowsOf(2, 1, 2, 1, 2), list{run(0, 3), run(0, 3)}, only(1), only(2))
	leaves(t, rowsOf(2, 1, 2, 1, 2, 3, 0), list{run(0, 3), run(0, 3)}, only(1, 3), only(0, 2))
	leaves(t, rowsOf(2, 1, 2, 3, 0, 1, 2), list{run(0, 3), run(1, 3)}, only(1), only(2))
	leaves(t, rowsOf(2, 1, 2, 3, 0, 1, 2), list{run(0, 3), run(0, 1)}, only(3), only(0))
	leaves(t, rowsOf(2, 1, 2, 3, 0, 1, 2), list{of(1), of(0)}, only(), only())
	// Alike in the first place, and in the last one.
	rows := rowsOf(3, 1, 2, 3, 1, 2, 4, 1, 5, 3, 6, 2, 3)
	leaves(t, rows, times(3, run(0, 9)), only(1, 6), only(2, 5), only(3, 4))
	leaves(t, rows, list{of(1), run(0, 9), run(0, 9)}, only(1), only(2, 5), only(3, 4))
	leaves(t, rows, list{of(6), run(0, 9), run(0, 9)}, only(6), only(2), only(3))
	leaves(t, rows, list{run(0, 9), of(5), run(0, 9)}, only(1), only(5), only(3))
	leaves(t, rows, list{run(0, 9), of(2), run(0, 9)}, only(1, 6), only(2), only(3, 4))
	leaves(t, rows, list{run(0, 9), run(0, 9), of(4)}, only(1), only(2), only(4))
	leaves(t, rows, list{run(0, 9), run(0, 9), of(3)}, only(1, 6), only(2, 5), only(3))
	leaves(t, rows, list{of(6), of(5), run(0, 9)}, nothing(3)...)
	leaves(t, rows, list{of(6), of(2), of(4)}, nothing(3)...)
	leaves(t, rows, list{of(1), of(5), of(4)}, nothing(3)...)
	leaves(t, rows, list{of(1, 6), of(5), of(3, 4)}, only(1), only(5), only(3))
	// Each place of rows of all widths.
	for n := 1; n <= api.MostTerms; n++ {
		for at := range n {
			one := numbers(1, n)
			other := slices.Clone(one)
			other[at] = 20
			l := times(n, run(0, 20))
			want := [][]int{}
			for _, v := range one {
				want = append(want, only(v))
			}
			want[at] = only(at+1, 20)
			leaves(t, [][]int{one, other}, l, want...)
			leaves(t, [][]int{other, one, other}, l, want...)
			l[at] = run(1, 19)
			want[at] = only(at + 1)
			leaves(t, [][]int{one, other}, l, want...)
			l[at] = run(10, 20)
			want[at] = only(20)
			leaves(t, [][]int{one, other}, l, want...)
			l[at] = run(10, 19)
			leaves(t, [][]int{one, other}, l, nothing(n)...)
		}
	}
}

// P16.1: rows of which all are alive, some, and none; those that aren't stand first, last or between.
func TestAlive(t *testing.T) {
	rows := rowsOf(3, 0, 5, -2, 1, 6, -3, 2, 7, -4, 3, 8, -5)
	for live := range 16 {
		wants := nothing(3)
		for k, row := range rows {
			if live>>k&1 == 1 {
				for at, v := range row {
					wants[at] = append(wants[at], v)
				}
			}
		}
		slices.Sort(wants[2])
		for at := range 3 {
			// One variable tells which rows are alive, the two others have all.
			l := list{run(0, 3), run(5, 8), run(-5, -2)}
			l[at].Live = 0
			for _, v := range wants[at] {
				l[at].Live |= 1 << (v - l[at].Vals[0])
			}
			leaves(t, rows, l, wants...)
		}
	}
	// Each is not alive for the sake of another variable.
	leaves(t, rows, list{of(0, 1, 2), of(5, 6, 8), of(-5, -4, -3)}, only(1), only(6), only(-3))
	leaves(t, rows, list{of(1, 2, 3), of(5, 7, 8), of(-4, -3, -2)}, only(2), only(7), only(-4))
	leaves(t, rows, list{of(0, 3), of(5, 6), of(-5, -4)}, nothing(3)...)
	leaves(t, rows, list{of(0, 1), of(5, 7), of(-5, -3)}, nothing(3)...)
	// The numbers of a row that isn't alive are left, if they stand in another one that is.
	rows = rowsOf(3, 1, 1, 1, 1, 2, 3, 3, 1, 2, 2, 3, 1)
	leaves(t, rows, times(3, run(1, 3)), only(1, 2, 3), only(1, 2, 3), only(1, 2, 3))
	leaves(t, rows, list{run(1, 3), run(1, 3), of(2, 3)}, only(1, 3), only(1, 2), only(2, 3))
	leaves(t, rows, list{run(1, 3), of(2, 3), run(1, 3)}, only(1, 2), only(2, 3), only(1, 3))
	leaves(t, rows, list{of(2, 3), run(1, 3), run(1, 3)}, only(2, 3), only(1, 3), only(1, 2))
	leaves(t, rows, list{of(2, 3), of(1, 2), run(1, 3)}, only(3), only(1), only(2))
}

// P16.1: a step is asked of what was left ahead of it: what one variable loses in it changes nothing of what the others
// keep; and of what it leaves all stays.
func TestAhead(t *testing.T) {
	leaves(t, rowsOf(2, 1, 1, 1, 2, 2, 2, 2, 3), list{run(1, 3), of(1, 3)}, only(1, 2), only(1, 3))
	leaves(t, rowsOf(2, 1, 1, 1, 2, 2, 2, 2, 3), list{of(1), of(2, 3)}, only(1), only(2))
	leaves(t, rowsOf(2, 2, 2, 1, 2, 1, 1), list{run(0, 1), run(0, 9)}, only(1), only(1, 2))
	d := dice(3)
	for range 3000 {
		n := 1 + d.upTo(8)
		c, l := thrown(&d, n, n+d.upTo(4), 40)
		got, e := Step(c, l)
		if e != api.OK {
			t.Errorf("Step of %s, %s: error %d", short(c), short(l), e)
			continue
		}
		step(t, c, got, values(got))
	}
}

// P16.1: all of the variables that aren't named stays, be it alike, nothing, or what no row has.
func TestOthers(t *testing.T) {
	rows := rowsOf(2, 1, 2, 3, 4)
	step(t, table(only(0, 2), rows...), list{run(0, 4), run(0, 4), run(0, 4)}, [][]int{only(1, 3), numbers(0, 4), only(2, 4)})
	step(t, table(only(2, 0), rows...), list{run(0, 4), run(0, 4), run(0, 4)}, [][]int{only(2, 4), numbers(0, 4), only(1, 3)})
	step(t, table(only(1, 2), rows...), list{some(0, 4), run(0, 4), run(0, 4)}, [][]int{only(), only(1, 3), only(2, 4)})
	step(t, table(only(2, 1), rows...), list{{}, run(0, 4), run(0, 4), of(9)}, [][]int{only(), only(2, 4), only(1, 3), only(9)})
	step(t, table(only(3, 0), rows...), list{of(2), some(0, 3), run(5, 68), of(1)}, [][]int{only(2), only(), numbers(5, 68), only(1)})
	step(t, table(only(3, 0), rows...), list{of(3), some(0, 3), run(5, 68), of(1)}, [][]int{only(), only(), numbers(5, 68), only()})
	step(t, table(only(1)), list{run(0, 4), run(0, 4), some(0, 4, 2)}, [][]int{numbers(0, 4), only(), only(2)})
	step(t, table(only(1), only(2)), list{run(0, 4), run(0, 4), some(0, 4, 3)}, [][]int{numbers(0, 4), only(2), only(3)})
	for n := 1; n <= api.MostTerms; n++ {
		l := append(times(n, run(0, 9)), of(1), some(1, 9), run(1, 60), of(n), dom.Dom{})
		want := values(l)
		for i := range n {
			want[i] = only(n - i)
		}
		row := numbers(1, n)
		step(t, table(numbers(0, n-1)), l, append(nothing(n), values(l[n:])...))
		back := numbers(0, n-1)
		slices.Reverse(back)
		step(t, table(back, row), l, want)
		slices.Reverse(row)
		step(t, table(numbers(0, n-1), row), l, want)
	}
}

// P16.1: of domains of which one has nothing left, at each place, nothing is left of any of the constraint's.
func TestWiped(t *testing.T) {
	for _, empty := range []dom.Dom{some(0, 3), some(-31, 32), {}, {Vals: []int{}}, some(0, 0)} {
		for n := 1; n <= api.MostTerms; n++ {
			rows := [][]int{slices.Repeat([]int{0}, n), numbers(0, n-1), slices.Repeat([]int{3}, n)}
			for at := range n {
				for _, full := range []dom.Dom{run(0, 20), of(0), of(3), run(0, 63)} {
					l := times(n, full)
					l[at] = empty
					leaves(t, rows, l, nothing(n)...)
					leaves(t, nil, l, nothing(n)...)
					step(t, table(numbers(0, n-1), rows...), append(copied(l), run(0, 4), of(1)), append(nothing(n), numbers(0, 4), only(1)))
				}
			}
			leaves(t, rows, times(n, empty), nothing(n)...)
		}
	}
}

// P16.1: a value of the domain that isn't left counts as not left, and one that is none of it, too.
func TestLeft(t *testing.T) {
	rows := rowsOf(2, 1, 4, 2, 5, 3, 6)
	leaves(t, rows, list{some(0, 9, 1, 3), some(0, 9, 4, 5)}, only(1), only(4))
	leaves(t, rows, list{some(0, 9, 1, 3), some(0, 9, 5)}, only(), only())
	leaves(t, rows, list{some(0, 9, 2, 9), some(0, 9, 0, 5)}, only(2), only(5))
	leaves(t, rows, list{of(0, 2, 4), of(3, 5, 7)}, only(2), only(5))
	leaves(t, rows, list{of(0, 2, 4), of(4, 6)}, only(), only())
	leaves(t, rows, list{of(0, 4), run(4, 6)}, only(), only())
	leaves(t, rows, list{of(-100, 1, 100), of(-100, 4, 6, 100)}, only(1), only(4))
	leaves(t, rows, list{some(1, 3, 1, 3), run(4, 6)}, only(1, 3), only(4, 6))
	leaves(t, rows, list{some(1, 3, 3), run(4, 6)}, only(3), only(6))
	leaves(t, rows, list{run(1, 3), some(4, 6, 4)}, only(1), only(4))
	leaves(t, rows, list{some(0, 3, 0), some(4, 6, 4)}, only(), only())
	// What is ahead of all values, and behind them.
	leaves(t, rows, list{of(2), of(5)}, only(2), only(5))
	leaves(t, rowsOf(1, 1, 3), list{of(2)}, only())
	leaves(t, rowsOf(1, -9, 9), list{run(-8, 8)}, only())
	leaves(t, rowsOf(1, -8, 8), list{run(-8, 8)}, only(-8, 8))
	// The same places of unlike values are unlike, unlike places of the same value are the same.
	leaves(t, rowsOf(3, 2, 3, 4, 5, 5, 5), list{some(1, 4, 2), some(2, 5, 3), some(3, 6, 4)}, only(2), only(3), only(4))
	leaves(t, rowsOf(3, 4, 4, 4, 2, 3, 4), list{some(1, 4, 4), some(2, 5, 4), some(3, 6, 4)}, only(4), only(4), only(4))
	leaves(t, rowsOf(3, 1, 1, 1, 3, 3, 3), list{some(1, 4, 3), some(2, 5, 4), some(3, 6, 5)}, nothing(3)...)
}

// P16.1: values below 0, 0, and above it, the least and the greatest that may be.
func TestNumbers(t *testing.T) {
	leaves(t, rowsOf(2, -most, most, most, -most), list{of(-most, most), of(-most, most)}, only(-most, most), only(-most, most))
	leaves(t, rowsOf(2, -most, most, most, -most), list{of(-most, most), of(most)}, only(-most), only(most))
	leaves(t, rowsOf(2, -most, most, most, -most), list{of(-most), of(-most)}, only(), only())
	leaves(t, rowsOf(2, -most, most, 0, 0), list{of(1-most, 0), of(0, most-1)}, only(0), only(0))
	leaves(t, rowsOf(2, -most, most, 1, 1), list{of(1-most, 0), of(0, most-1)}, only(), only())
	leaves(t, rowsOf(3, -1, 0, 1, 1, 0, -1), times(3, run(-1, 1)), only(-1, 1), only(0), only(-1, 1))
	leaves(t, rowsOf(3, -1, 0, 1, 1, 0, -1), list{run(0, 1), run(-1, 1), run(-1, 1)}, only(1), only(0), only(-1))
	leaves(t, rowsOf(3, -1, 0, 1, 1, 0, -1), list{run(0, 1), run(-1, 1), run(0, 1)}, nothing(3)...)
	leaves(t, rowsOf(2, 0, 0), list{run(-1, 1), run(-1, 1)}, only(0), only(0))
	leaves(t, rowsOf(2, 0, 0), list{of(-1, 1), run(-1, 1)}, only(), only())
	leaves(t, rowsOf(2, -3, 3), list{run(-3, 3), run(-3, 3)}, only(-3), only(3))
	leaves(t, rowsOf(2, -3, 3), list{of(3), of(-3)}, only(), only())
	// Numbers that are alike in their last 6, 8, 16 or 20 bits are unlike.
	leaves(t, rowsOf(1, 65, 257, 1<<16+1, 1-1<<20), list{of(1)}, only())
	leaves(t, rowsOf(2, 65, 2, 1, 66, 257, 258, 1-1<<20, 2), list{of(1-1<<20, 1), of(2, 258)}, only(1-1<<20), only(2))
	leaves(t, rowsOf(2, 64, 0, 0, 64), list{of(0, 64), of(0)}, only(64), only(0))
}

// P16.1: all small domains of rows of one, two, and three.
func TestPlainSmall(t *testing.T) {
	vals := numbers(-1, 2)
	for x := range uint64(16) {
		for _, nums := range [][]int{nil, {0}, {2, -1}, {3, 1, 1}, {-1, 0, 1, 2}, {-2, 3}} {
			alike(t, table(only(0), nums), list{{Vals: vals, Live: x}})
			alike(t, table(only(1), nums), list{{Vals: vals, Live: 5}, {Vals: vals, Live: x}})
		}
		for y := range uint64(16) {
			l := list{{Vals: vals, Live: x}, {Vals: vals, Live: y}}
			for _, nums := range [][]int{nil, {0, 1}, {2, -1, -1, 2}, {0, 0, 1, 1, 0, 1}, {3, 0, 0, 3, 1, 1}, {1, 2, 2, 1, 0, 0, -1, 0, 1, 2}} {
				alike(t, table(only(0, 1), nums), l)
				alike(t, table(only(1, 0), nums), l)
			}
			for z := range uint64(16) {
				three := append(copied(l), dom.Dom{Vals: vals, Live: z})
				for _, nums := range [][]int{{0, 1, 2}, {2, -1, 0, -1, 2, 0, 0, 0, 0}, {0, 0, 1, 0, 1, 0, 1, 0, 0, 2, 2, 2}, {3, 0, 0, 0, 3, 1, 1, 1, 1}} {
					alike(t, table(only(0, 1, 2), nums), three)
					alike(t, table(only(2, 0, 1), nums), three)
				}
			}
		}
	}
}

// P16.1: domains of as many values as may be, of which all are left, or just some.
func TestMost(t *testing.T) {
	d := dice(4)
	for n := 1; n <= api.MostTerms; n++ {
		for _, low := range []int{-most, -64, -63, -31, -1, 0, 1, most - 63} {
			l := times(n, run(low, low+63))
			for _, count := range []int{1, 2, api.MostNums/n - 1, api.MostNums / n} {
				alike(t, table(d.order(n), thrownNums(&d, l, count)), l)
			}
			for _, k := range []int{0, 1, 31, 32, 62, 63} {
				row := slices.Repeat([]int{low + k}, n)
				row[n/2] = low + 63 - k
				want := slices.Repeat([][]int{only(low + k)}, n)
				want[n/2] = only(low + 63 - k)
				leaves(t, [][]int{row}, l, want...)
			}
		}
	}
	for range 1000 {
		n := 1 + d.upTo(8)
		var l list
		for range n {
			one := run(0, 63)
			for k := range one.Vals {
				one.Vals[k] = k*(1+k%3) - d.upTo(2)
			}
			slices.Sort(one.Vals)
			one.Vals = slices.Compact(one.Vals)
			one.Live = (uint64(d.upTo(1<<30))<<34 | uint64(d.upTo(1<<30))<<4 | uint64(d.upTo(16))) & (uint64(1)<<len(one.Vals) - 1)
			l = append(l, one)
		}
		alike(t, table(d.order(n), thrownNums(&d, l, d.of(api.MostNums/n, 1+d.upTo(api.MostNums/n)))), l)
	}
}

// P16.1: values at the last places, of domains that have as many as may be.
func TestLastPlaces(t *testing.T) {
	d := dom.Dom{Vals: numbers(-63, 0), Live: 1<<63 | 1<<62}
	leaves(t, rowsOf(2, 0, 7, -1, 8, -2, 9), list{d, run(7, 9)}, only(-1, 0), only(7, 8))
	leaves(t, rowsOf(2, 0, -1, -1, -2, -62, 0), list{d, d}, only(0), only(-1))
	leaves(t, rowsOf(1, 0), list{d}, only(0))
	leaves(t, rowsOf(1, -63, -1), list{d}, only(-1))
	leaves(t, rowsOf(1, -63, -62, -2), list{d}, only())
	first := dom.Dom{Vals: numbers(0, 63), Live: 1}
	leaves(t, rowsOf(2, 0, 0, 63, 63), list{first, run(0, 63)}, only(0), only(0))
	leaves(t, rowsOf(2, 63, 63, 1, 0), list{first, run(0, 63)}, only(), only())
}

// P16.1: variables in all orders, each with a domain of its own, so that no two can stand for each other.
func TestOrders(t *testing.T) {
	l := list{of(3, 5), run(2, 4), some(-9, 9, 3, 4, 6), of(3, 7), of(4, 5), of(4, 9, 30)}
	d := dice(8)
	for n := 1; n <= len(l); n++ {
		for _, order := range orders(n) {
			for more := 0; more+n <= len(l); more++ {
				vars := slices.Clone(order)
				var own list
				for at := range vars {
					vars[at] += more
					own = append(own, l[vars[at]])
				}
				alike(t, table(vars, thrownNums(&d, own, 1+d.upTo(5))), l)
				alike(t, table(vars, thrownNums(&d, l[:n], 1+d.upTo(5))), l)
			}
		}
	}
	step(t, table(only(0, 1), only(0, 1)), list{of(0), of(1)}, [][]int{only(0), only(1)})
	step(t, table(only(1, 0), only(0, 1)), list{of(0), of(1)}, [][]int{only(), only()})
	step(t, table(only(1, 0), only(1, 0)), list{of(0), of(1)}, [][]int{only(0), only(1)})
}

// P16.1: thrown constraints and domains, some of which may not be, as the chapter's words have it.
func TestPlainThrown(t *testing.T) {
	d := dice(5)
	told := map[string]int{}
	for range 30000 {
		n := 1 + d.upTo(8)
		c, l := thrown(&d, n, n+d.upTo(4), 60)
		switch d.upTo(16) {
		case 0:
			l = l[:d.upTo(len(l))]
		case 1:
			l[d.upTo(len(l))].Live = 1 << d.upTo(64)
		case 2:
			c.Kind = d.upTo(9) - 1
		case 3:
			c.Vars = c.Vars[:len(c.Vars)-d.upTo(2)]
			c.Rel = d.of(0, 0, 0, 1, -1)
		case 4:
			c.Vars[d.upTo(len(c.Vars))] = d.upTo(len(l)+1) - 1
		case 5:
			c.Nums = append(c.Nums, d.of(0, 0, most, most+1))
		}
		want, right := plainStep(c, l)
		if !right {
			refused(t, c, l)
			told["none"]++
			continue
		}
		step(t, c, l, want)
		for _, i := range c.Vars {
			switch {
			case len(left(l[i])) == 0:
				told["empty"]++
			case len(want[i]) == len(left(l[i])):
				told["all"]++
			case len(want[i]) == 0:
				told["wiped"]++
			default:
				told["some"]++
			}
		}
	}
	for _, s := range []string{"none", "empty", "all", "wiped", "some"} {
		if told[s] < 1000 {
			t.Errorf("too few of %s: %d", s, told[s])
		}
	}
}

// P16.1: constraints that need more variables than there are domains, and just as many.
func TestStepVars(t *testing.T) {
	c, l := table(only(0, 1), only(0, 1)), times(2, run(0, 1))
	refused(t, c, nil)
	refused(t, c, list{})
	refused(t, c, l[:1])
	step(t, c, l, [][]int{only(0), only(1)})
	for n := 1; n <= api.MostTerms; n++ {
		all := table(numbers(0, n-1), numbers(1, n))
		for count := range n {
			refused(t, all, times(count, run(0, 9)))
			refused(t, table(numbers(0, n-1)), times(count, run(0, 9)))
		}
		var want [][]int
		for i := range n {
			want = append(want, only(i+1))
		}
		step(t, all, times(n, run(0, 9)), want)
		for place := n - 1; place < 22; place++ {
			for at := range n {
				// The others are the first ones.
				one := table(numbers(0, n-2), slices.Insert(slices.Repeat([]int{5}, n-1), at, 4))
				one.Vars = slices.Insert(one.Vars, at, place)
				refused(t, one, nil)
				refused(t, one, times(max(place-1, 0), run(0, 9)))
				refused(t, one, times(place, run(0, 9)))
				for more := 1; more < 4; more++ {
					l := times(place+more, run(0, 9))
					want := values(l)
					for i := range n - 1 {
						want[i] = only(5)
					}
					want[place] = only(4)
					step(t, one, l, want)
				}
			}
		}
	}
}

// P16.1: constraints that may not be, or are of another kind.
func TestStepCons(t *testing.T) {
	l := times(12, run(0, 9))
	good := table(only(0, 1, 2), only(1, 2, 3), only(4, 5, 6))
	step(t, good, l, append([][]int{only(1, 4), only(2, 5), only(3, 6)}, values(l[3:])...))
	for _, c := range []api.Con{
		{},
		{Kind: api.Table},
		{Kind: api.Table, Nums: []int{0, 1}},
		{Kind: api.Table, Vars: []int{}, Nums: []int{1}},
		{Kind: api.Linear, Vars: []int{0, 1}, Coefs: []int{1, 1}},
		{Kind: api.Linear, Vars: []int{0}, Coefs: []int{1}},
		{Kind: api.Product, Vars: []int{0, 1, 2}},
		{Kind: api.Iff, Vars: []int{0, 1}, Coefs: []int{1}},
		{Kind: api.Element, Vars: []int{0, 1}, Nums: []int{1, 1}},
		{Kind: api.Differ, Vars: []int{0, 1}},
		{Vars: []int{0, 1}, Nums: []int{1, 1}},
		{Vars: []int{0, 1}},
	} {
		refused(t, c, l)
		refused(t, c, nil)
	}
	for i, spoil := range []func(c *api.Con){
		func(c *api.Con) { c.Kind = 0 },
		func(c *api.Con) { c.Kind = -1 },
		func(c *api.Con) { c.Kind = 7 },
		func(c *api.Con) { c.Kind = api.Linear },
		func(c *api.Con) { c.Kind, c.Nums = api.Product, nil },
		func(c *api.Con) { c.Kind = api.Iff },
		func(c *api.Con) { c.Kind, c.Vars = api.Element, c.Vars[:2] },
		func(c *api.Con) { c.Kind, c.Nums = api.Differ, nil },
		func(c *api.Con) { c.Kind, c.Coefs, c.Nums = api.Linear, []int{1, 1, 1}, nil },
		func(c *api.Con) { c.Kind, c.Coefs, c.Nums = api.Iff, []int{1, 1}, nil },
		func(c *api.Con) { c.Kind = -api.Table },
		func(c *api.Con) { c.Kind = math.MinInt },
		func(c *api.Con) { c.Kind = math.MaxInt },
		func(c *api.Con) { c.Kind += 1 << 32 },
		func(c *api.Con) { c.Kind += 1 << 8 },
		func(c *api.Con) { c.Vars = nil },
		func(c *api.Con) { c.Vars, c.Nums = nil, nil },
		func(c *api.Con) { c.Vars = []int{} },
		func(c *api.Con) { c.Vars, c.Nums = numbers(0, 8), nil },
		func(c *api.Con) { c.Vars, c.Nums = numbers(0, 8), numbers(0, 8) },
		func(c *api.Con) { c.Vars = numbers(0, 11) },
		func(c *api.Con) { c.Vars = make([]int, 5000) },
		func(c *api.Con) { c.Vars[1] = c.Vars[0] },
		func(c *api.Con) { c.Vars[2] = c.Vars[0] },
		func(c *api.Con) { c.Vars[2] = c.Vars[1] },
		func(c *api.Con) { c.Vars = []int{3, 3} },
		func(c *api.Con) { c.Vars, c.Nums = append(numbers(0, 6), 0), nil },
		func(c *api.Con) { c.Vars, c.Nums = append(numbers(0, 6), 6), nil },
		func(c *api.Con) { c.Vars[0] = -1 },
		func(c *api.Con) { c.Vars[1] = -1 },
		func(c *api.Con) { c.Vars[2] = -1 },
		func(c *api.Con) { c.Vars[0] = 12 },
		func(c *api.Con) { c.Vars[1] = 12 },
		func(c *api.Con) { c.Vars[2] = 12 },
		func(c *api.Con) { c.Vars[0] = math.MinInt },
		func(c *api.Con) { c.Vars[2] = math.MinInt },
		func(c *api.Con) { c.Vars[0] = math.MaxInt },
		func(c *api.Con) { c.Vars[2] = math.MaxInt },
		func(c *api.Con) { c.Vars[1] = 1 << 32 },
		// Numbers that are no whole number of rows.
		func(c *api.Con) { c.Nums = c.Nums[:1] },
		func(c *api.Con) { c.Nums = c.Nums[:2] },
		func(c *api.Con) { c.Nums = c.Nums[:4] },
		func(c *api.Con) { c.Nums = c.Nums[:5] },
		func(c *api.Con) { c.Nums = append(c.Nums, 7) },
		func(c *api.Con) { c.Nums = append(c.Nums, 7, 8) },
		func(c *api.Con) { c.Nums = make([]int, 95) },
		func(c *api.Con) { c.Nums = make([]int, 97) },
		func(c *api.Con) { c.Vars = numbers(0, 3) },
		func(c *api.Con) { c.Vars, c.Nums = numbers(0, 7), make([]int, 92) },
		func(c *api.Con) { c.Vars, c.Nums = numbers(0, 4), make([]int, 96) },
		// More numbers than may be, though they are whole rows.
		func(c *api.Con) { c.Nums = make([]int, 99) },
		func(c *api.Con) { c.Vars, c.Nums = only(4), make([]int, 97) },
		func(c *api.Con) { c.Vars, c.Nums = numbers(0, 1), make([]int, 98) },
		func(c *api.Con) { c.Vars, c.Nums = numbers(0, 3), make([]int, 100) },
		func(c *api.Con) { c.Vars, c.Nums = numbers(0, 4), make([]int, 100) },
		func(c *api.Con) { c.Vars, c.Nums = numbers(0, 7), make([]int, 104) },
		func(c *api.Con) { c.Nums = make([]int, 6000) },
		// Numbers beyond what may be.
		func(c *api.Con) { c.Nums[0] = most + 1 },
		func(c *api.Con) { c.Nums[0] = -most - 1 },
		func(c *api.Con) { c.Nums[2] = most + 1 },
		func(c *api.Con) { c.Nums[5] = most + 1 },
		func(c *api.Con) { c.Nums[5] = -most - 1 },
		func(c *api.Con) { c.Nums[0] = math.MaxInt },
		func(c *api.Con) { c.Nums[1] = math.MinInt },
		func(c *api.Con) { c.Nums[4] = 1<<32 + 1 },
		func(c *api.Con) { c.Coefs = []int{0} },
		func(c *api.Con) { c.Coefs = []int{1, 1} },
		func(c *api.Con) { c.Coefs = []int{1, 1, 1} },
		func(c *api.Con) { c.Rel = 1 },
		func(c *api.Con) { c.Rel = -1 },
		func(c *api.Con) { c.Rel = 5 },
		func(c *api.Con) { c.Rel = math.MinInt },
		func(c *api.Con) { c.Const = 1 },
		func(c *api.Con) { c.Const = -1 },
		func(c *api.Con) { c.Const = math.MaxInt },
	} {
		c := copiedCon(good)
		spoil(&c)
		if _, e := Step(c, l); e != api.ErrArg {
			t.Errorf("fault %d: error %d", i, e)
		}
		refused(t, c, l)
		refused(t, c, nil)
		refused(t, c, times(12, dom.Dom{}))
	}
	// As many variables as may be, and as many numbers.
	step(t, table(numbers(0, 7), make([]int, 96)), l, append(slices.Repeat([][]int{only(0)}, 8), values(l[8:])...))
	step(t, table(only(11), make([]int, 96)), l, append(values(l[1:]), only(0)))
	step(t, table(numbers(0, 4), make([]int, 95)), l, append(slices.Repeat([][]int{only(0)}, 5), values(l[5:])...))
}

// wrongs are domains that may not be, each for one reason.
func wrongs() list {
	return list{
		{Vals: []int{2, 1}, Live: 3}, {Vals: []int{1, 1}, Live: 1}, {Vals: []int{1, 3, 2}}, {Vals: []int{0, 1, 1}, Live: 3},
		{Vals: []int{most + 1}, Live: 1}, {Vals: []int{-most - 1}, Live: 1}, {Vals: []int{0, most + 1}, Live: 1}, {Vals: []int{-most - 1, 0}},
		{Vals: []int{math.MinInt}, Live: 1}, {Vals: []int{math.MaxInt}, Live: 1}, {Vals: []int{0, math.MaxInt, math.MinInt}, Live: 7},
		{Live: 1}, {Vals: []int{}, Live: 1}, {Live: math.MaxUint64}, {Vals: []int{0, 1}, Live: 4}, {Vals: []int{0, 1}, Live: 7},
		{Vals: []int{0, 1}, Live: 1 << 63}, {Vals: numbers(0, 62), Live: math.MaxUint64},
		{Vals: numbers(0, 64), Live: math.MaxUint64}, {Vals: numbers(0, 64)}, {Vals: numbers(-500, 500), Live: 1},
	}
}

// P16.1: domains that may not be, of each variable of the constraint, and of others.
func TestStepDoms(t *testing.T) {
	c := table(only(3, 1, 4), only(0, 0, 0))
	for _, wrong := range wrongs() {
		for at := range 6 {
			for _, other := range []dom.Dom{run(0, 3), of(0), some(0, 1), {}} {
				l := times(6, other)
				l[at] = wrong
				refused(t, c, l)
				refused(t, table(only(3, 1, 4)), l)
				refused(t, api.Con{Kind: api.Element, Vars: []int{0, 1}, Nums: []int{0}}, l)
				refused(t, table(only(3, 1, 6), only(0, 0, 0)), l)
			}
		}
	}
	refused(t, c, times(6, wrongs()[0]))
	step(t, c, times(6, run(0, 3)), [][]int{numbers(0, 3), only(0), numbers(0, 3), only(0), only(0), numbers(0, 3)})
}

// within tells whether all numbers of each list are of the other's, too.
func within(a, b [][]int) bool {
	for i, l := range a {
		for _, v := range l {
			if !slices.Contains(b[i], v) {
				return false
			}
		}
	}
	return len(a) == len(b)
}

// rows tells all rows of values, one of each list.
func rows(own [][]int) [][]int {
	l := [][]int{{}}
	for _, values := range own {
		var longer [][]int
		for _, row := range l {
			for _, v := range values {
				longer = append(longer, append(slices.Clone(row), v))
			}
		}
		l = longer
	}
	return l
}

// P16.2: no row that holds, and whose values are left, loses one; and each value that is kept stands in such a row.
func TestRows(t *testing.T) {
	d := dice(13)
	held, lost := 0, 0
	for range 12000 {
		n := 1 + d.upTo(8)
		c, l := thrown(&d, n, n+d.upTo(3), 200)
		got, e := Step(c, l)
		if e != api.OK {
			t.Errorf("Step of %s, %s: error %d", short(c), short(l), e)
			continue
		}
		own, kept, want, count := ownOf(c, l), ownOf(c, got), nothing(n), 1
		for _, values := range own {
			count *= len(values)
		}
		if count > 1000 {
			continue
		}
		whole := make([]int, len(l))
		for _, row := range rows(own) {
			for at, i := range c.Vars {
				whole[i] = row[at]
			}
			if !ground.Holds(c, whole) {
				continue
			}
			held++
			for at, v := range row {
				want[at] = append(want[at], v)
			}
		}
		for at := range want {
			slices.Sort(want[at])
			want[at] = slices.Compact(want[at])
		}
		if !reflect.DeepEqual(kept, want) {
			t.Errorf("Step of %s, %s: keeps %s, but rows that hold have %s", short(c), short(l), short(kept), short(want))
		}
		if !reflect.DeepEqual(own, kept) {
			lost++
		}
	}
	if held < 5000 || lost < 1500 {
		t.Errorf("%d rows hold, %d times less is left", held, lost)
	}
}

// P16.2: what a step leaves was left ahead of it; of less, less is left.
func TestLess(t *testing.T) {
	d := dice(17)
	fewer := 0
	for range 12000 {
		n := 1 + d.upTo(8)
		c, l := thrown(&d, n, n+d.upTo(3), 80)
		more, e := Step(c, l)
		if e != api.OK || !within(values(more), values(l)) {
			t.Errorf("Step of %s, %s: %s, error %d", short(c), short(l), short(more), e)
		}
		less := copied(l)
		for range 1 + d.upTo(4) {
			one := &less[c.Vars[d.upTo(n)]]
			one.Live &= ^(1 << d.upTo(len(one.Vals)))
		}
		got, e := Step(c, less)
		if e != api.OK || !within(values(got), values(more)) {
			t.Errorf("Step of %s: of %s leaves %s, of %s %s", short(c), short(values(l)), short(values(more)), short(values(less)), short(values(got)))
		}
		if !reflect.DeepEqual(values(got), values(more)) {
			fewer++
		}
	}
	if fewer < 1000 {
		t.Errorf("%d times less was left of less", fewer)
	}
}

// P16.2: a row that holds, and whose values are left, keeps them all, whichever the other rows are.
func TestRowsThatHold(t *testing.T) {
	d := dice(23)
	for range 4000 {
		n := 1 + d.upTo(8)
		c, l := thrown(&d, n, n+d.upTo(3), 1<<30)
		var row []int
		for _, i := range c.Vars {
			values := left(l[i])
			row = append(row, values[d.upTo(len(values))])
		}
		at := d.upTo(len(c.Nums)/n+1) * n
		c.Nums = slices.Insert(c.Nums, at, row...)
		c.Nums = c.Nums[:min(len(c.Nums), api.MostNums/n*n)]
		if at == len(c.Nums) {
			continue
		}
		got, e := Step(c, l)
		if e != api.OK {
			t.Errorf("Step of %s, %s: error %d", short(c), short(l), e)
			continue
		}
		for k, i := range c.Vars {
			if !slices.Contains(left(got[i]), row[k]) {
				t.Errorf("Step of %s, %s: row %v has lost %d", short(c), short(l), row, row[k])
			}
		}
	}
}

// P16.2: what is left of single values is all, just if the constraint holds of them; else it is none.
func TestSingles(t *testing.T) {
	d := dice(19)
	told := map[bool]int{}
	for range 12000 {
		n := 1 + d.upTo(8)
		c, l := thrown(&d, n, n+d.upTo(3), 1<<30)
		row := make([]int, len(l))
		for i := range l {
			k := d.upTo(len(l[i].Vals))
			row[i], l[i].Live = l[i].Vals[k], 1<<k
		}
		if rows := plainRows(c.Nums, n); len(rows) > 0 && d.upTo(2) == 0 {
			for at, v := range rows[d.upTo(len(rows))] {
				// Now and then one place is another one's number.
				if d.upTo(16) == 0 {
					v = min(v+1, most)
				}
				row[c.Vars[at]], l[c.Vars[at]] = v, of(v)
			}
		}
		want := values(l)
		holds := ground.Holds(c, row)
		if !holds {
			for _, i := range c.Vars {
				want[i] = only()
			}
		}
		step(t, c, l, want)
		told[holds]++
	}
	if told[true] < 3000 || told[false] < 3000 {
		t.Errorf("%v", told)
	}
}

// P16.2: of all single values about 0, and at the ends.
func TestSinglesSmall(t *testing.T) {
	for _, l := range [][]int{{-most, -256, -64, -2, -1, 0, 1, 2, 63, 64, 256, most}, {-1, 0, 1}} {
		for n := 1; n <= 3; n++ {
			for _, nums := range [][]int{nil, make([]int, n), slices.Repeat([]int{-1, 0, 1}, n), slices.Repeat([]int{64, -most, most, 1}, n)} {
				c := table(numbers(0, n-1), nums)
				for _, row := range rows(slices.Repeat([][]int{l}, n)) {
					var one list
					for _, v := range row {
						one = append(one, of(v))
					}
					want := values(one)
					if !ground.Holds(c, row) {
						want = nothing(n)
					}
					step(t, c, one, want)
				}
			}
		}
	}
}

// spoilt fills all memory that domains have with other things, to its last place.
func spoilt(l list) {
	for i := range l {
		vals := l[i].Vals[:cap(l[i].Vals)]
		for k := range vals {
			vals[k] = 777
		}
	}
	l = l[:cap(l)]
	for i := range l {
		l[i] = dom.Dom{Vals: []int{888}, Live: 9}
	}
}

// P16.1, R3, R4: answers share no memory with an argument, nor with another answer, nor within themselves.
func TestShared(t *testing.T) {
	d := dice(29)
	for range 3000 {
		c, l := thrown(&d, 1+d.upTo(6), 6, 30)
		for i := range l {
			// There is room behind the last value.
			l[i].Vals = append(make([]int, 0, len(l[i].Vals)+3), l[i].Vals...)
		}
		// Two variables may have their values in the same place.
		l[d.upTo(6)] = l[d.upTo(6)]
		l = append(make(list, 0, 12), l...)
		con, was := copiedCon(c), copied(l)
		first, _ := Step(c, l)
		second, _ := Step(c, l)
		kept := copied(first)
		if !reflect.DeepEqual(first, second) {
			t.Errorf("Step of %s, %s: another time %s, not %s", short(c), short(l), short(second), short(first))
		}
		spoilt(second)
		if !reflect.DeepEqual(first, kept) || !reflect.DeepEqual(l, was) || !reflect.DeepEqual(c, con) {
			t.Errorf("Step of %s, %s: shared with the answer of another call", short(con), short(was))
		}
		for i := range first {
			vals := first[i].Vals[:cap(first[i].Vals)]
			for k := range vals {
				vals[k] = 777
			}
			if !reflect.DeepEqual(first[i+1:], kept[i+1:]) {
				t.Errorf("Step of %s, %s: what %d has is shared", short(con), short(was), i)
			}
		}
		spoilt(first)
		if !reflect.DeepEqual(l, was) || !reflect.DeepEqual(c, con) {
			t.Errorf("Step of %s, %s: now they are %s, %s", short(con), short(was), short(c), short(l))
		}
		third, _ := Step(c, l)
		for i := range c.Vars {
			c.Vars[i] = 999
		}
		for i := range c.Nums {
			c.Nums[i] = 999
		}
		spoilt(l)
		if !reflect.DeepEqual(third, kept) {
			t.Errorf("Step of %s, %s: the answer became %s", short(con), short(was), short(third))
		}
	}
}

// P16.1, R3: of domains whose values stand in the place of the rows, and of the constraint's variables.
func TestSharedNumbers(t *testing.T) {
	nums := numbers(0, 3)
	l := list{{Vals: nums, Live: 0b0011}, {Vals: nums, Live: 0b0111}, {Vals: nums, Live: 0b1111}, {Vals: nums, Live: 0b1010}}
	c := api.Con{Kind: api.Table, Vars: nums, Nums: nums}
	step(t, c, l, [][]int{only(0), only(1), only(2), only(3)})
	got, _ := Step(c, l)
	spoilt(got)
	if !slices.Equal(nums, numbers(0, 3)) {
		t.Errorf("the values became %v", nums)
	}
	// What lies behind the last row is none of it.
	c.Vars, c.Nums = numbers(0, 1), []int{1, 2, 0, 1}[:2]
	step(t, c, l, [][]int{only(1), only(2), only(0, 1, 2, 3), only(1, 3)})
	if behind := c.Nums[:4]; !slices.Equal(behind, only(1, 2, 0, 1)) {
		t.Errorf("the numbers became %v", behind)
	}
}

// R6: no values are no values, and no rows are none, whether there is a list of them or not.
func TestEmpty(t *testing.T) {
	c := table(only(1, 2), only(3, 2))
	c.Coefs = []int{}
	for _, none := range []dom.Dom{{}, {Vals: []int{}}, {Vals: []int{1}[:0]}} {
		step(t, c, list{none, run(0, 3), run(2, 3)}, [][]int{only(), only(3), only(2)})
		step(t, c, list{run(0, 3), none, run(2, 3)}, [][]int{numbers(0, 3), only(), only()})
		step(t, c, list{run(0, 3), run(0, 3), none}, [][]int{numbers(0, 3), only(), only()})
		step(t, c, list{none, none, none}, nothing(3))
	}
	for _, none := range [][]int{nil, {}, make([]int, 0, 2)} {
		c.Nums = none
		step(t, c, list{of(1), of(1), of(1, 2)}, [][]int{only(1), only(), only()})
	}
}

// R1: every call ends and none panics, of very many domains, and of numbers at the ends of int.
func TestGreat(t *testing.T) {
	many := times(1<<16, run(0, 3))
	last := table(only(1<<16-1, 7), only(3, 2), only(1, 1), only(0, 2))
	want := values(many)
	many[7] = of(2)
	want[7], want[1<<16-1] = only(2), only(0, 3)
	step(t, last, many, want)
	last.Vars[0] = 1 << 16
	refused(t, last, many)
	numbers := []int{math.MinInt, math.MaxInt, -1, 0, 1, 2, 3, most, 1 << 40}
	d := dice(31)
	stepped := 0
	for range 100000 {
		c := api.Con{Kind: d.of(6, 6, 6, 6, d.of(numbers...)), Rel: d.of(0, 0, 0, 0, 0, d.of(numbers...)), Const: d.of(0, 0, 0, 0, 0, d.of(numbers...))}
		for range d.of(1, 2, 2, 3, 0, 9) {
			c.Vars = append(c.Vars, d.of(0, 1, 2, 3, 4, d.of(numbers...)))
		}
		for range d.of(0, 0, 0, 0, 0, 1) {
			c.Coefs = append(c.Coefs, d.of(numbers...))
		}
		for range d.of(0, 2, 3, 4, 6, 6, 1) {
			c.Nums = append(c.Nums, d.of(-1, 0, 1, 1, 2, -most, most, d.of(0, 1, 2, 4, d.of(numbers...))))
		}
		var l list
		for range d.of(5, 5, 4, 3, 2, 0) {
			var a dom.Dom
			for range d.upTo(4) {
				a.Vals = append(a.Vals, d.of(-2, -1, 0, 1, 2, 4, most, -most, d.of(0, 1, 2, 3, d.of(numbers...))))
			}
			if d.upTo(8) > 0 {
				slices.Sort(a.Vals)
				a.Vals = slices.Compact(a.Vals)
			}
			a.Live = uint64(1)<<len(a.Vals) - 1
			if d.upTo(8) == 0 {
				a.Live = uint64(d.of(0, 1, 3, 7, 7, d.of(numbers...)))
			}
			l = append(l, a)
		}
		if want, right := plainStep(c, l); right {
			step(t, c, l, want)
			stepped++
		} else {
			refused(t, c, l)
		}
	}
	if stepped < 1000 {
		t.Errorf("just %d steps", stepped)
	}
}
