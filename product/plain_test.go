package product

import (
	"slices"

	"stratagem/api"
	"stratagem/dom"
	"stratagem/model"
)

// dice tells numbers that look thrown, the same ones in each run.
type dice uint64

func (d *dice) upTo(n int) int {
	*d = *d*6364136223846793005 + 1442695040888963407
	return int(uint64(*d) >> 33 % uint64(n))
}

// of tells one of some numbers.
func (d *dice) of(l ...int) int {
	return l[d.upTo(len(l))]
}

// order tells the numbers below n in an order that looks thrown.
func (d *dice) order(n int) []int {
	var l []int
	for i := range n {
		l = slices.Insert(l, d.upTo(i+1), i)
	}
	return l
}

// left tells the values of a domain whose places are in its set, by the words of chapter 4 alone.
func left(d dom.Dom) []int {
	l := []int{}
	for k, v := range d.Vals {
		if d.Live>>k&1 == 1 {
			l = append(l, v)
		}
	}
	return l
}

// plainRows tells all rows of values that are left of which the product holds: each first one, with each second one,
// with each third one.
func plainRows(l [3][]int) [][3]int {
	var rows [][3]int
	for _, x := range l[0] {
		for _, y := range l[1] {
			for _, z := range l[2] {
				if int64(x)*int64(y) == int64(z) {
					rows = append(rows, [3]int{x, y, z})
				}
			}
		}
	}
	return rows
}

// plainRight tells whether there is a step of a constraint and domains, by the chapter's words alone.
func plainRight(c api.Con, l []dom.Dom) bool {
	faults := 0
	if c.Kind != 2 {
		faults++
	}
	if !model.Right(c, len(l)) {
		faults++
	}
	for _, d := range l {
		if !dom.May(d) {
			faults++
		}
	}
	return faults == 0
}

// plainStep tells of each variable what it keeps, and true; none and false, if there is no step.
func plainStep(c api.Con, l []dom.Dom) ([][]int, bool) {
	if !plainRight(c, l) {
		return nil, false
	}
	rows := plainRows([3][]int{left(l[c.Vars[0]]), left(l[c.Vars[1]]), left(l[c.Vars[2]])})
	var answer [][]int
	for i, d := range l {
		at := slices.Index(c.Vars, i)
		keeps := []int{}
		for _, v := range left(d) {
			if at < 0 || slices.ContainsFunc(rows, func(row [3]int) bool { return row[at] == v }) {
				keeps = append(keeps, v)
			}
		}
		answer = append(answer, keeps)
	}
	return answer, true
}

// thrownDom tells a domain that may be, of few values or of many, of which some are left; of one in so many none is.
func thrownDom(d *dice, empty int) dom.Dom {
	var vals []int
	switch d.upTo(9) {
	case 0:
		vals = []int{0, 1}
	case 1:
		vals = []int{-1 << 20, 1 - 1<<20, -1024, -1, 0, 1, 5, 512, 1024, 1<<20 - 1, 1 << 20}
	case 2:
		for v, from := 0, d.upTo(90)-60; v < api.MostVals; v++ {
			vals = append(vals, from+v)
		}
	case 3:
		for v, by := 0, d.of(2, 3, 7); v < 20; v++ {
			vals = append(vals, (v-10)*by)
		}
	default:
		for v := -6; v <= 12; v++ {
			if d.upTo(2) == 0 {
				vals = append(vals, v)
			}
		}
	}
	if len(vals) == 0 {
		vals = []int{d.upTo(9) - 4}
	}
	a := dom.Dom{Vals: vals}
	if d.upTo(empty) == 0 {
		return a
	}
	most := d.of(1, 2, 2, 4, 7, 100)
	for range most {
		a.Live |= 1 << d.upTo(len(vals))
	}
	return a
}

// thrown tells a Product that may be, of domains (3 at least) that are thrown for it; often the third one's variable has
// products of the other two's.
func thrown(d *dice, vars, empty int) (api.Con, []dom.Dom) {
	var l []dom.Dom
	for range vars {
		l = append(l, thrownDom(d, empty))
	}
	c := api.Con{Kind: api.Product, Vars: d.order(vars)[:3]}
	if d.upTo(3) == 0 {
		return c, l
	}
	products := []int{d.upTo(9) - 4}
	for _, x := range left(l[c.Vars[0]]) {
		for _, y := range left(l[c.Vars[1]]) {
			if p := x * y; p >= -1<<20 && p <= 1<<20 && d.upTo(3) == 0 {
				products = append(products, p, min(max(p+d.of(1, -1, 2, 7), -1<<20), 1<<20))
			}
		}
	}
	slices.Sort(products)
	products = slices.Compact(products)
	from := d.upTo(len(products))
	third := dom.Dom{Vals: slices.Clone(products[from:min(from+api.MostVals, len(products))])}
	for k := range third.Vals {
		if d.upTo(empty) > 0 && d.upTo(3) > 0 {
			third.Live |= 1 << k
		}
	}
	l[c.Vars[2]] = third
	return c, l
}
