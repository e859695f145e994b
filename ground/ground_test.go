package ground

import (
	"fmt"
	"math"
	"reflect"
	"slices"
	"testing"

	"stratagem/api"
)

// short tells a thing as some words, however great it is.
func short(x any) string {
	s := fmt.Sprint(x)
	return s[:min(len(s), 300)]
}

// holds looks whether a constraint and a row may be, and whether the constraint, alone and in lists, holds of the row.
func holds(t *testing.T, want bool, c api.Con, row ...int) {
	t.Helper()
	if !Right([]api.Con{c}, row) {
		t.Errorf("Right of %v, %v: false", c, row)
	}
	if Holds(c, row) != want {
		t.Errorf("Holds of %v, %v: not %t", c, row, want)
	}
	for n := range 3 {
		if All(slices.Repeat([]api.Con{c}, n+1), row) != want {
			t.Errorf("All of %d of %v, %v: not %t", n+1, c, row, want)
		}
	}
}

// mayNot looks whether a constraint of a row is refused, whatever stands ahead of it and behind it.
func mayNot(t *testing.T, c api.Con, row ...int) {
	t.Helper()
	if Holds(c, row) {
		t.Errorf("Holds of %s, %s: true", short(c), short(row))
	}
	other := api.Con{Kind: api.Linear, Vars: []int{0}, Coefs: []int{1}, Rel: api.LE, Const: 1 << 40}
	for _, l := range [][]api.Con{{c}, {c, c}, {c, other}, {other, c}, {other, c, other}} {
		if Right(l, row) || All(l, row) {
			t.Errorf("of %s, %s: Right %t, All %t", short(l), short(row), Right(l, row), All(l, row))
		}
	}
}

// sum is a Linear constraint of the first variables.
func sum(coefs []int, rel, number int) api.Con {
	return api.Con{Kind: api.Linear, Vars: rising(len(coefs)), Coefs: coefs, Rel: rel, Const: number}
}

// iff is an Iff constraint of the first variables.
func iff(coefs []int, rel, number int) api.Con {
	return api.Con{Kind: api.Iff, Vars: rising(len(coefs) + 1), Coefs: coefs, Rel: rel, Const: number}
}

// element is an Element constraint of the first two variables.
func element(nums ...int) api.Con {
	return api.Con{Kind: api.Element, Vars: []int{0, 1}, Nums: nums}
}

// differ is a Differ constraint of the first variables.
func differ(vars int) api.Con {
	return api.Con{Kind: api.Differ, Vars: rising(vars)}
}

// table is a Table constraint of the first variables.
func table(vars int, nums ...int) api.Con {
	return api.Con{Kind: api.Table, Vars: rising(vars), Nums: nums}
}

// product is a Product constraint of the first three variables.
func product() api.Con {
	return api.Con{Kind: api.Product, Vars: []int{0, 1, 2}}
}

// rising are so many numbers, from 0 on.
func rising(n int) []int {
	var l []int
	for i := range n {
		l = append(l, i)
	}
	return l
}

// rows tells all rows of so many values from low to high.
func rows(vars, low, high int) [][]int {
	l := [][]int{{}}
	for range vars {
		var longer [][]int
		for _, row := range l {
			for v := low; v <= high; v++ {
				longer = append(longer, append(slices.Clone(row), v))
			}
		}
		l = longer
	}
	return l
}

// each is one constraint of each kind, of three variables.
func each() []api.Con {
	return []api.Con{
		sum([]int{2, -1, 1}, api.LE, 1), product(), iff([]int{1, -1}, api.LT, 0), element(1, 0, 2), differ(3), table(3, 1, 2, 0, 0, 0, 1),
	}
}

// copied is the same constraint, with lists of its own.
func copied(c api.Con) api.Con {
	c.Vars, c.Coefs, c.Nums = slices.Clone(c.Vars), slices.Clone(c.Coefs), slices.Clone(c.Nums)
	return c
}

// rels are all rels that there are; contrary ones stand at contrary.
var rels = [6]int{api.EQ, api.NE, api.LT, api.LE, api.GT, api.GE}

// contrary are the rels that hold of just those sums of which those of rels don't.
var contrary = [6]int{api.EQ: api.NE, api.NE: api.EQ, api.LT: api.GE, api.LE: api.GT, api.GT: api.LE, api.GE: api.LT}

// sumsOf are Coefs, rows, and their sums.
var sumsOf = []struct {
	coefs, row []int
	sum        int
}{
	{[]int{1}, []int{0}, 0},
	{[]int{1}, []int{-7}, -7},
	{[]int{-1}, []int{7}, -7},
	{[]int{-3}, []int{-5}, 15},
	{[]int{2, -3}, []int{4, 5}, -7},
	{[]int{-3, 2}, []int{4, 5}, -2},
	{[]int{1, 1, 1}, []int{1, 10, 100}, 111},
	{[]int{1, -1, 2, -2}, []int{9, 9, 9, 9}, 0},
	{[]int{1, 2, 3, 4, 5, 6, 7, 8}, []int{8, 7, 6, 5, 4, 3, 2, 1}, 120},
	{[]int{1, 2, 3, 4, -5, -6, -7, -8}, []int{1, 2, 3, 4, 5, 6, 7, 8}, -144},
	{[]int{1 << 20}, []int{1<<20 - 1}, 1<<40 - 1<<20},
	{[]int{-1 << 20}, []int{1<<20 - 1}, 1<<20 - 1<<40},
	{[]int{1 << 20, -1 << 20, 1 << 20, -1 << 20, 1 << 20, -1 << 20, 1 << 20, -1 << 20}, []int{1 << 20, 1 << 20, 1 << 20, 1 << 20, 1 << 20, 1 << 20, 1 << 20, 1 << 20}, 0},
	{[]int{1 << 20, 1 << 20, -1 << 20, -1 << 20, 3, 1, -1, 1}, []int{1 << 20, 1 << 20, 1 << 20, 1 << 20, 0, 5, 6, 7}, 6},
}

// P11.1: the chapter's example.
func TestExample(t *testing.T) {
	holds(t, true, product(), 2, -3, -6)
}

// P11.1: Linear, with each rel, of sums that are less than Const, that it is, and that are more.
func TestLinear(t *testing.T) {
	for _, s := range sumsOf {
		for _, rel := range rels {
			holds(t, compared[rel][0], sum(s.coefs, rel, s.sum+1), s.row...)
			holds(t, compared[rel][1], sum(s.coefs, rel, s.sum), s.row...)
			holds(t, compared[rel][2], sum(s.coefs, rel, s.sum-1), s.row...)
			holds(t, compared[rel][0], sum(s.coefs, rel, 1<<40), s.row...)
			holds(t, compared[rel][2], sum(s.coefs, rel, -1<<40), s.row...)
		}
	}
}

// P11.1: the greatest sums, at the greatest Consts and beyond them.
func TestLinearGreat(t *testing.T) {
	most := 1 << 20
	for _, rel := range rels {
		for _, sign := range []int{1, -1} {
			holds(t, compared[rel][1], sum([]int{most}, rel, sign<<40), sign*most)
			holds(t, compared[rel][1], sum([]int{-most}, rel, sign<<40), -sign*most)
			holds(t, compared[rel][1+sign], sum([]int{most}, rel, sign<<40-sign), sign*most)
			holds(t, compared[rel][1+sign], sum([]int{most}, rel, 0), sign*most)
			holds(t, compared[rel][1-sign], sum([]int{most}, rel, sign<<40), sign*(most-1))
			for n := 2; n <= 8; n++ {
				holds(t, compared[rel][1+sign], sum(slices.Repeat([]int{most}, n), rel, sign<<40), slices.Repeat([]int{sign * most}, n)...)
				holds(t, compared[rel][1+sign], sum(slices.Repeat([]int{-most}, n), rel, sign<<40), slices.Repeat([]int{-sign * most}, n)...)
			}
		}
	}
}

// P11.1: one constraint of many rows.
func TestLinearRows(t *testing.T) {
	for _, row := range rows(3, -3, 3) {
		x, y, z := row[0], row[1], row[2]
		holds(t, x-2*y+3*z == 1, sum([]int{1, -2, 3}, api.EQ, 1), row...)
		holds(t, x-2*y+3*z != 1, sum([]int{1, -2, 3}, api.NE, 1), row...)
		holds(t, -x-y < -2, sum([]int{-1, -1}, api.LT, -2), row...)
		holds(t, x+y <= z, sum([]int{1, 1, -1}, api.LE, 0), row...)
		holds(t, -5*x > 4, sum([]int{-5}, api.GT, 4), row...)
		holds(t, x >= -2, sum([]int{1}, api.GE, -2), row...)
	}
}

// P11.1: Iff, with each rel and each of the three sums, of a first value of 1, of 0, and of other numbers.
func TestIff(t *testing.T) {
	for _, s := range sumsOf {
		for _, rel := range rels {
			for at, does := range compared[rel] {
				c := iff(s.coefs, rel, s.sum+1-at)
				holds(t, does, c, slices.Concat([]int{1}, s.row)...)
				holds(t, !does, c, slices.Concat([]int{0}, s.row)...)
				for _, v := range []int{-1, 2, 3, -2, 256, 1<<16 + 1, 1 << 20, -1 << 20} {
					holds(t, false, c, slices.Concat([]int{v}, s.row)...)
				}
			}
		}
	}
}

// P11.1: the first variable of Iff is none of its sum's.
func TestIffRows(t *testing.T) {
	for _, row := range rows(3, -2, 3) {
		b, x, y := row[0], row[1], row[2]
		holds(t, b == 1 && 2*x-y >= 3 || b == 0 && 2*x-y < 3, iff([]int{2, -1}, api.GE, 3), row...)
		holds(t, b == 1 && x == 0 || b == 0 && x != 0, iff([]int{7}, api.EQ, 0), row...)
	}
}

// P11.1: Product of numbers below 0, of 0, of 1 and of the greatest ones; the third one is what the others make.
func TestProduct(t *testing.T) {
	most := 1 << 20
	for _, row := range [][]int{
		{2, 3, 6}, {3, 2, 6}, {-2, -3, 6}, {-2, 3, -6}, {0, 0, 0}, {0, 5, 0}, {-5, 0, 0}, {1, 1, 1}, {-1, -1, 1}, {1, -9, -9},
		{0, most, 0}, {-most, 0, 0}, {1, most, most}, {most, -1, -most}, {-most, -1, most}, {1 << 10, 1 << 10, most},
		{-1 << 10, 1 << 10, -most}, {1 << 19, 2, most}, {524288, -2, -most}, {1023, 1025, most - 1},
	} {
		holds(t, true, product(), row...)
		holds(t, false, product(), row[0], row[1], row[2]-1+2*b(row[2] < 0))
	}
	for _, row := range [][]int{
		{6, 3, 2}, {6, 2, 3}, {3, 6, 2}, {2, 6, 3}, {2, 3, 5}, {2, 3, -6}, {-2, -3, -6}, {0, 0, 1}, {0, 7, 7}, {0, 1, -1}, {7, 0, 7},
		{1, 0, 1}, {most, most, most}, {most, most, 0}, {-most, most, 0}, {1 << 16, 1 << 16, 0}, {most, 1 << 12, 0}, {most, most, 1},
		{-most, -most, -most}, {1 << 8, 1 << 8, 0}, {most, 1, -most},
	} {
		holds(t, false, product(), row...)
	}
	for _, row := range rows(3, -4, 4) {
		holds(t, row[0]*row[1] == row[2], product(), row...)
	}
}

// b is a truth as a number.
func b(is bool) int {
	return map[bool]int{true: 1}[is]
}

// P11.1: Element, at each place and beyond both ends; numbers that stand twice.
func TestElement(t *testing.T) {
	for n := range 97 {
		if n == 0 {
			continue
		}
		var nums []int
		for i := range n {
			nums = append(nums, 7*i-50)
		}
		c := element(nums...)
		for i, v := range nums {
			holds(t, true, c, i, v)
			holds(t, false, c, i, v+1)
			holds(t, false, c, i+1, v)
			holds(t, false, c, i-1, v)
			holds(t, false, c, -i-1, v)
		}
		for _, i := range []int{-1, -2, -n, n, n + 1, 2 * n, 256, 1 << 16, 1 << 20, -1 << 20} {
			if i < 0 || i >= n {
				for _, v := range []int{nums[0], nums[n-1], 0, i} {
					holds(t, false, c, i, v)
				}
			}
		}
	}
	c := element(5, 9, 5, -1<<20, 1<<20, 0)
	for _, row := range rows(2, -2, 10) {
		want := map[[2]int]bool{{0, 5}: true, {1, 9}: true, {2, 5}: true, {5, 0}: true}[[2]int(row)]
		holds(t, want, c, row...)
	}
	holds(t, true, c, 3, -1<<20)
	holds(t, true, c, 4, 1<<20)
	holds(t, true, element(4), 0, 4)
	holds(t, false, element(4), 4, 0)
	holds(t, false, element(4), 1, 4)
	holds(t, false, element(0), 1, 0)
	holds(t, false, element(0), -1, 0)
}

// P11.1: Differ of as many variables as may be, with two the same at each pair of places.
func TestDiffer(t *testing.T) {
	for n := 2; n <= 8; n++ {
		var row []int
		for i := range n {
			row = append(row, (i*5+3)%8-4)
		}
		holds(t, true, differ(n), row...)
		for i := range n {
			for k := range n {
				if i != k {
					other := slices.Clone(row)
					other[i] = other[k]
					holds(t, false, differ(n), other...)
				}
			}
		}
		holds(t, false, differ(n), make([]int, n)...)
	}
	for _, row := range rows(3, -1, 2) {
		holds(t, row[0] != row[1] && row[0] != row[2] && row[1] != row[2], differ(3), row...)
		holds(t, row[0] != row[1], differ(2), row...)
	}
	holds(t, true, differ(4), 1<<20, -1<<20, 0, 1<<20-1)
	holds(t, true, differ(3), 5, -5, 1<<20-5)
	holds(t, false, differ(3), 1<<20, -1<<20, 1<<20)
}

// P11.1: Table of several rows: the first one, the last one, and none of them.
func TestTable(t *testing.T) {
	c := table(2, 1, 2, 3, 4, 1, 5, 3, 4, -7, 1<<20)
	for _, row := range rows(2, -1, 6) {
		want := map[[2]int]bool{{1, 2}: true, {3, 4}: true, {1, 5}: true}[[2]int(row)]
		holds(t, want, c, row...)
	}
	holds(t, true, c, -7, 1<<20)
	// What stands there, but over the edge of two rows, or in another order, is no row.
	holds(t, false, c, 2, 3)
	holds(t, false, c, 4, 1)
	holds(t, false, c, 5, 3)
	holds(t, false, c, 2, 1)
	holds(t, false, c, 1<<20, -7)
	holds(t, true, table(1, 4, -9, 0), 4)
	holds(t, true, table(1, 4, -9, 0), -9)
	holds(t, true, table(1, 4, -9, 0), 0)
	holds(t, false, table(1, 4, -9, 0), 9)
	holds(t, true, table(1, 6), 6)
	holds(t, false, table(1, 6), 5)
	holds(t, false, table(1, 6), 0)
}

// P11.1: Table of no Nums, of as many variables as may be.
func TestTableNone(t *testing.T) {
	for n := 1; n <= 8; n++ {
		holds(t, false, table(n), make([]int, n)...)
		holds(t, false, api.Con{Kind: api.Table, Vars: rising(n), Nums: []int{}}, rising(n)...)
	}
}

// P11.1: Table of each count of variables, with as many rows as may be.
func TestTableRows(t *testing.T) {
	for n := 1; n <= 8; n++ {
		for count := 1; count <= 96/n; count++ {
			var nums []int
			for i := range n * count {
				nums = append(nums, i/3*3-20)
			}
			c := table(n, nums...)
			for at := 0; at < len(nums); at += n {
				row := slices.Clone(nums[at : at+n])
				holds(t, true, c, row...)
				for i := range row {
					row[i]++
					holds(t, false, c, row...)
					row[i]--
				}
			}
		}
	}
}

// P11.1: variables that stand in any order, of rows with more values than the constraint has variables.
func TestVars(t *testing.T) {
	d := dice(11)
	for _, vars := range []int{3, 4, 5, 16, 40} {
		for range 60 {
			order := d.order(vars)[:3]
			for _, c := range each() {
				for _, own := range rows(3, -1, 2) {
					row := near(&d, vars)
					moved := c
					moved.Vars = nil
					for _, v := range c.Vars {
						moved.Vars = append(moved.Vars, order[v])
					}
					for i, v := range own {
						row[order[i]] = v
					}
					holds(t, plainHolds(c, own), moved, row...)
				}
			}
		}
	}
}

// P11.1: which variable stands at which place.
func TestVarsPlaces(t *testing.T) {
	with := func(c api.Con, vars ...int) api.Con {
		c.Vars = vars
		return c
	}
	holds(t, true, with(product(), 2, 0, 1), 3, 6, 2)
	holds(t, false, with(product(), 0, 1, 2), 3, 6, 2)
	holds(t, true, with(element(4, 8), 1, 0), 8, 1)
	holds(t, false, with(element(4, 8), 0, 1), 8, 1)
	holds(t, true, with(sum([]int{2, -3}, api.EQ, 1), 1, 0), 1, 2)
	holds(t, false, with(sum([]int{2, -3}, api.EQ, 1), 0, 1), 1, 2)
	holds(t, true, with(iff([]int{1}, api.EQ, 5), 3, 1), 0, 5, 0, 1)
	holds(t, false, with(iff([]int{1}, api.EQ, 5), 1, 3), 0, 5, 0, 1)
	holds(t, true, with(table(2, 7, 9), 2, 0), 9, 0, 7)
	holds(t, false, with(table(2, 7, 9), 0, 2), 9, 0, 7)
	holds(t, true, with(differ(2), 3, 1), 5, 1, 5, 2)
	holds(t, false, with(differ(2), 2, 0), 5, 1, 5, 2)
	holds(t, true, with(sum([]int{1}, api.EQ, 6), 15), 0, 0, 0, 0, 0, 0, 0, 0, 0, 0, 0, 0, 0, 0, 0, 6)
}

// P11.1: a constraint that needs more variables than the row has values, fewer, and just as many.
func TestRightVars(t *testing.T) {
	for _, c := range each() {
		need := len(c.Vars)
		for n := range 8 {
			if n < need {
				mayNot(t, c, make([]int, n)...)
			} else {
				holds(t, plainHolds(c, make([]int, n)), c, make([]int, n)...)
			}
		}
		// It isn't how many Vars there are that counts, but which ones.
		far := c
		far.Vars = slices.Clone(c.Vars)
		far.Vars[need-1] = 9
		mayNot(t, far, make([]int, 9)...)
		mayNot(t, far)
		holds(t, plainHolds(far, make([]int, 10)), far, make([]int, 10)...)
		far.Vars[0], far.Vars[need-1] = 9, 0
		mayNot(t, far, make([]int, 9)...)
		holds(t, plainHolds(far, make([]int, 10)), far, make([]int, 10)...)
	}
}

// P11.1: a value at the ends of what may be, and beyond them, at each place, of variables that are named and that aren't.
func TestRightValues(t *testing.T) {
	for _, c := range each() {
		for at := range 6 {
			for _, v := range []struct {
				v     int
				right bool
			}{
				{1 << 20, true}, {-1 << 20, true}, {1<<20 + 1, false}, {-1<<20 - 1, false}, {1<<20 - 1, true}, {1 - 1<<20, true}, {0, true},
				{1 << 32, false}, {-1 << 32, false}, {1 << 40, false}, {math.MaxInt, false}, {math.MinInt, false}, {math.MinInt + 1, false},
			} {
				row := make([]int, 6)
				row[at] = v.v
				if v.right {
					holds(t, plainHolds(c, row), c, row...)
				} else {
					mayNot(t, c, row...)
				}
				if Right(nil, row) != v.right || All(nil, row) != v.right {
					t.Errorf("no constraints, %v: %t, %t; want %t", row, Right(nil, row), All(nil, row), v.right)
				}
				if one := row[at : at+1]; Right(nil, one) != v.right || All([]api.Con{}, one) != v.right {
					t.Errorf("no constraints, %v: %t, %t; want %t", one, Right(nil, one), All([]api.Con{}, one), v.right)
				}
			}
		}
	}
}

// P11.1: a row that would be one, if a value might be so great, is none.
func TestRightGreat(t *testing.T) {
	mayNot(t, product(), 1<<20, 1<<20, 1<<40)
	mayNot(t, product(), 1, 1<<20+1, 1<<20+1)
	mayNot(t, differ(2), 1, 1<<20+1)
	mayNot(t, differ(2), math.MinInt, math.MaxInt)
	mayNot(t, sum([]int{1}, api.EQ, 1<<20+1), 1<<20+1)
	mayNot(t, sum([]int{1, 1}, api.GE, 0), math.MaxInt, math.MaxInt)
	mayNot(t, iff([]int{1}, api.GT, 0), 1, 1<<20+1)
	mayNot(t, element(3), math.MinInt, 3)
	mayNot(t, table(1, 1<<20+1), 1<<20+1)
	mayNot(t, sum([]int{1}, api.LE, 0), 0, 0, -1<<20-1)
}

// P11.1, R6: rows and lists that are empty.
func TestEmpty(t *testing.T) {
	for _, l := range [][]api.Con{nil, {}} {
		for _, row := range [][]int{nil, {}, {0}, {3, -1 << 20}, make([]int, 1000)} {
			if !Right(l, row) || !All(l, row) {
				t.Errorf("no constraints, %d values: %t, %t", len(row), Right(l, row), All(l, row))
			}
		}
	}
	for _, c := range append(each(), api.Con{}, table(1), sum([]int{1}, api.EQ, 0)) {
		mayNot(t, c)
		mayNot(t, c, []int{}...)
		if Holds(c, []int{}) || Right([]api.Con{c}, []int{}) || All([]api.Con{c}, []int{}) {
			t.Errorf("of %v, an empty row: true", c)
		}
	}
}

// P11.1: constraints that may not be, whatever the row is.
func TestRightCons(t *testing.T) {
	for _, row := range [][]int{{0, 0, 0}, {1, 1, 1}, {0, 1, 2}, {2, 3, 6, 0, 0, 0, 0, 0, 0, 0}} {
		for _, c := range each() {
			for _, change := range []func(c *api.Con){
				func(c *api.Con) { c.Kind = 0 },
				func(c *api.Con) { c.Kind = 7 },
				func(c *api.Con) { c.Kind = -1 },
				func(c *api.Con) { c.Vars = nil },
				func(c *api.Con) { c.Vars = []int{} },
				func(c *api.Con) { c.Vars[0] = -1 },
				func(c *api.Con) { c.Vars[1] = math.MinInt },
				func(c *api.Con) { c.Vars[len(c.Vars)-1] = math.MaxInt },
				func(c *api.Con) { c.Vars[0] = c.Vars[1] },
				func(c *api.Con) { c.Vars[0] = len(row) },
				func(c *api.Con) { c.Vars = append(c.Vars, c.Vars...) },
				func(c *api.Con) { c.Coefs = append(c.Coefs, 1) },
				func(c *api.Con) { c.Coefs = append(c.Coefs, 0) },
				func(c *api.Con) { c.Rel = 6 },
				func(c *api.Con) { c.Rel = -1 },
				func(c *api.Con) { c.Const = 1<<40 + 1 },
				func(c *api.Con) { c.Const = math.MinInt },
				func(c *api.Con) { c.Nums = make([]int, 97) },
				func(c *api.Con) { c.Nums = append(c.Nums, 1<<20+1) },
			} {
				wrong := copied(c)
				change(&wrong)
				mayNot(t, wrong, row...)
			}
			holds(t, plainHolds(c, row), c, row...)
		}
		mayNot(t, sum([]int{1, 0}, api.EQ, 0), row...)
		mayNot(t, sum([]int{1<<20 + 1}, api.NE, 7), row...)
		mayNot(t, element(), row...)
		mayNot(t, table(2, 1, 1, 1), row...)
		mayNot(t, differ(1), row...)
	}
}

// P11.1: All of several constraints of which none, one, all but one, or all hold, in each place.
func TestAll(t *testing.T) {
	row := []int{2, 3, 6}
	yes := []api.Con{product(), differ(3), sum([]int{1, 1, -1}, api.LT, 0), table(2, 1, 1, 2, 3), sum([]int{1}, api.EQ, 2)}
	no := []api.Con{sum([]int{1, 1, -1}, api.EQ, 0), element(1, 2, 4), table(3), iff([]int{1}, api.EQ, 3), product()}
	no[4].Vars = []int{2, 1, 0}
	for n := range 1 << 5 {
		var l []api.Con
		for i := range 5 {
			if n>>i&1 == 1 {
				l = append(l, yes[i])
			} else {
				l = append(l, no[i])
			}
		}
		for size := range 6 {
			want := n&(1<<size-1) == 1<<size-1
			if !Right(l[:size], row) || All(l[:size], row) != want {
				t.Errorf("of %v, %v: %t, %t; want %t", l[:size], row, Right(l[:size], row), All(l[:size], row), want)
			}
		}
	}
	if l := slices.Repeat(yes, 1000); !Right(l, row) || !All(l, row) || All(append(l, no[0]), row) || All(slices.Insert(l, 0, no[1]), row) {
		t.Error("of many constraints")
	}
}

// P11.1: All of several constraints of which one may not be, ahead of and behind ones that hold and that don't.
func TestAllRight(t *testing.T) {
	row := []int{2, 3, 6}
	yes, no := product(), sum([]int{1, 1, -1}, api.EQ, 0)
	for _, wrong := range []api.Con{{}, differ(4), sum(nil, api.EQ, 0), element(), {Kind: 7, Vars: []int{0}}, {Kind: api.Table, Vars: []int{-1}}} {
		for _, l := range [][]api.Con{
			{wrong}, {yes, wrong}, {wrong, yes}, {no, wrong}, {wrong, no}, {yes, no, wrong}, {wrong, no, yes}, {no, wrong, yes}, {wrong, wrong},
			{yes, yes, yes, wrong}, {wrong, yes, yes, yes}, {yes, wrong, yes}, {no, wrong, no},
		} {
			if Right(l, row) || All(l, row) {
				t.Errorf("of %v, %v: %t, %t", l, row, Right(l, row), All(l, row))
			}
		}
	}
}

// P11.1: each kind, of all small rows, as the chapter's words have it.
func TestPlainSmall(t *testing.T) {
	d := dice(3)
	for range 40 {
		c := thrown(&d, 9)
		own := len(c.Vars)
		if own > 4 {
			continue
		}
		c.Vars = d.order(own)
		for _, row := range rows(own, -2, 3) {
			holds(t, plainHolds(c, row), c, row...)
		}
	}
}

// P11.1: thrown lists of constraints and rows, some of which may not be, as the chapter's words have it.
func TestPlainThrown(t *testing.T) {
	d := dice(5)
	told := map[string]int{}
	for range 60000 {
		vars := 9 + d.upTo(8)
		var l []api.Con
		for range d.upTo(4) {
			l = append(l, thrown(&d, vars))
		}
		row := near(&d, vars)
		switch d.upTo(8) {
		case 0:
			row = row[:d.upTo(len(row)+1)]
		case 1:
			row[d.upTo(len(row))] = d.of(1<<20+1, -1<<20-1, math.MaxInt, math.MinInt, 1<<20)
		case 2:
			if len(l) > 0 {
				l[d.upTo(len(l))].Kind = d.upTo(9) - 1
			}
		}
		if Right(l, row) != plainRight(l, row) {
			t.Errorf("Right of %v, %v: not %t", l, row, plainRight(l, row))
		}
		if All(l, row) != plainAll(l, row) {
			t.Errorf("All of %v, %v: not %t", l, row, plainAll(l, row))
		}
		for _, c := range l {
			if Holds(c, row) != plainHolds(c, row) {
				t.Errorf("Holds of %v, %v: not %t", c, row, plainHolds(c, row))
			}
		}
		told[fmt.Sprint(len(l) > 1, plainRight(l, row), plainAll(l, row))]++
	}
	for _, s := range []string{"true true true", "true true false", "true false false", "false true true", "false true false", "false false false"} {
		if told[s] < 500 {
			t.Errorf("too few of %s: %d", s, told[s])
		}
	}
}

// P11.2: contrary rels hold of contrary rows, of Linear and of Iff; of Iff so do the first values 1 and 0.
func TestContrary(t *testing.T) {
	d := dice(7)
	for range 20000 {
		c := thrown(&d, 12)
		if c.Kind != api.Linear && c.Kind != api.Iff {
			continue
		}
		row := near(&d, 12)
		row[c.Vars[0]] = d.upTo(2)
		other := c
		other.Rel = contrary[c.Rel]
		if Holds(c, row) == Holds(other, row) {
			t.Errorf("of %v, %v: both rels %t", c, row, Holds(c, row))
		}
		if c.Kind == api.Iff {
			turned := slices.Clone(row)
			turned[c.Vars[0]] = 1 - row[c.Vars[0]]
			if Holds(c, row) == Holds(c, turned) || Holds(c, row) != Holds(other, turned) {
				t.Errorf("of %v, %v: %t; turned %t, %t", c, row, Holds(c, row), Holds(c, turned), Holds(other, turned))
			}
			inner := api.Con{Kind: api.Linear, Vars: c.Vars[1:], Coefs: c.Coefs, Rel: c.Rel, Const: c.Const}
			if Holds(inner, row) != (Holds(c, row) == (row[c.Vars[0]] == 1)) {
				t.Errorf("of %v, %v: its sum alone %t", c, row, Holds(inner, row))
			}
			turned[c.Vars[0]] = d.of(-1, 2, 1<<20)
			if Holds(c, turned) || Holds(other, turned) {
				t.Errorf("of %v, %v: true", c, turned)
			}
		}
	}
}

// P11.2: sums written the other way round, all signs turned, hold of the same rows.
func TestTurned(t *testing.T) {
	turned := [6]int{api.EQ: api.EQ, api.NE: api.NE, api.LT: api.GT, api.LE: api.GE, api.GT: api.LT, api.GE: api.LE}
	d := dice(9)
	for range 20000 {
		c := thrown(&d, 12)
		if c.Kind != api.Linear && c.Kind != api.Iff {
			continue
		}
		row := near(&d, 12)
		row[c.Vars[0]] = d.upTo(2)
		other := c
		other.Rel, other.Const, other.Coefs = turned[c.Rel], -c.Const, nil
		for _, k := range c.Coefs {
			other.Coefs = append(other.Coefs, -k)
		}
		if Holds(c, row) != Holds(other, row) {
			t.Errorf("of %v, %v: %t; turned %t", c, row, Holds(c, row), !Holds(c, row))
		}
	}
}

// P11.2: Differ holds in whichever order its variables are written.
func TestDifferOrder(t *testing.T) {
	d := dice(13)
	held := 0
	for range 4000 {
		c := differ(2 + d.upTo(7))
		row := d.order(10)
		if d.upTo(2) == 0 {
			row[d.upTo(10)] = row[d.upTo(10)]
		}
		vars := d.order(10)[:len(c.Vars)]
		c.Vars = vars
		want := Holds(c, row)
		held += b(want)
		for range 6 {
			c.Vars = nil
			for _, i := range d.order(len(vars)) {
				c.Vars = append(c.Vars, vars[i])
			}
			holds(t, want, c, row...)
		}
	}
	if held < 1000 || held > 3900 {
		t.Errorf("%d hold", held)
	}
}

// P11.2: Table holds in whichever order its rows are written, each as often as may be, and its variables with its numbers.
func TestTableOrder(t *testing.T) {
	d := dice(17)
	held := 0
	for range 4000 {
		n := 1 + d.upTo(4)
		var lines [][]int
		for range d.upTo(8) {
			lines = append(lines, near(&d, n))
		}
		vars := d.order(8)[:n]
		row := near(&d, 8)
		if len(lines) > 0 && d.upTo(2) == 0 {
			for i, v := range lines[d.upTo(len(lines))] {
				row[vars[i]] = v
			}
		}
		c := api.Con{Kind: api.Table, Vars: vars, Nums: slices.Concat(lines...)}
		want := Holds(c, row)
		held += b(want)
		for range 4 {
			places := d.order(n)
			other := api.Con{Kind: api.Table}
			for _, i := range places {
				other.Vars = append(other.Vars, vars[i])
			}
			for _, k := range append(d.order(len(lines)), d.order(len(lines))...) {
				for _, i := range places {
					other.Nums = append(other.Nums, lines[k][i])
				}
			}
			holds(t, want, other, row...)
		}
	}
	if held < 1000 || held > 3000 {
		t.Errorf("%d hold", held)
	}
}

// P11.2: values of variables that a constraint doesn't name change nothing, nor do more of them.
func TestOthers(t *testing.T) {
	d := dice(19)
	for range 8000 {
		c := thrown(&d, 10)
		row := near(&d, 10)
		want := Holds(c, row)
		for range 4 {
			other := near(&d, 10+d.upTo(20))
			for _, v := range c.Vars {
				other[v] = row[v]
			}
			holds(t, want, c, other...)
		}
	}
}

// R3, R4: arguments stay as they were, and the same calls answer the same.
func TestArguments(t *testing.T) {
	d := dice(23)
	for range 4000 {
		l, kept := []api.Con{}, []api.Con{}
		for range 1 + d.upTo(4) {
			c := thrown(&d, 10)
			l = append(l, c)
			kept = append(kept, copied(c))
		}
		row := near(&d, 9+d.upTo(3))
		was := slices.Clone(row)
		right, all, one := Right(l, row), All(l, row), Holds(l[0], row)
		if Right(l, row) != right || All(l, row) != all || Holds(l[0], row) != one {
			t.Errorf("of %v, %v: not the same again", l, row)
		}
		if !reflect.DeepEqual(l, kept) || !slices.Equal(row, was) {
			t.Errorf("%v, %v: were %v, %v", l, row, kept, was)
		}
	}
}

// R1: constraints and rows of very many parts, and of none that fit.
func TestGreat(t *testing.T) {
	many := rising(1 << 20)
	for kind := -1; kind < 9; kind++ {
		mayNot(t, api.Con{Kind: kind, Vars: many, Coefs: many, Nums: many}, many...)
		mayNot(t, api.Con{Kind: kind, Vars: []int{math.MinInt, math.MaxInt, -1}, Nums: many}, 0, 1, 2)
		mayNot(t, api.Con{Kind: kind}, many...)
	}
	last := sum([]int{1}, api.EQ, 1<<20-1)
	last.Vars[0] = 1<<20 - 1
	holds(t, true, last, many...)
	l := slices.Repeat(each(), 20000)
	if !Right(l, []int{0, 1, 2}) || All(l, []int{0, 1, 2}) || Right(l, []int{0, 1}) {
		t.Error("of many constraints")
	}
}
