package table

import (
	"slices"

	"stratagem/api"
	"stratagem/dom"
	"stratagem/model"
)

// dice tells numbers that look thrown, the same ones in each run.
type dice uint64

func (d *dice) upTo(n int) int {
	*d = *d*6364136223846793005 + 1442695040888963407
	return int(uint64(*d) >> 33 % uint64(n))
}

// of tells one of some numbers.
func (d *dice) of(l ...int) int {
	return l[d.upTo(len(l))]
}

// order tells the numbers below n in an order that looks thrown.
func (d *dice) order(n int) []int {
	var l []int
	for i := range n {
		l = slices.Insert(l, d.upTo(i+1), i)
	}
	return l
}

// left tells the values of a domain whose places are in its set, by the words of chapter 4 alone.
func left(d dom.Dom) []int {
	l := []int{}
	for k, v := range d.Vals {
		if d.Live>>k&1 == 1 {
			l = append(l, v)
		}
	}
	return l
}

// plainRows tells the rows of a constraint: its numbers, so many each, and none behind the last whole row.
func plainRows(nums []int, width int) [][]int {
	var rows [][]int
	for k := range len(nums) / width {
		var row []int
		for at := range width {
			row = append(row, nums[k*width+at])
		}
		rows = append(rows, row)
	}
	return rows
}

// plainAlive tells whether each number of a row is left of the variable of that place.
func plainAlive(row []int, own [][]int) bool {
	alive := 0
	for at, v := range row {
		if slices.Contains(own[at], v) {
			alive++
		}
	}
	return alive == len(own)
}

// plainKeeps tells whether a value stands at a place in a row that is alive.
func plainKeeps(rows, own [][]int, at, v int) bool {
	keeps := false
	for _, row := range rows {
		if row[at] == v && plainAlive(row, own) {
			keeps = true
		}
	}
	return keeps
}

// plainRight tells whether there is a step of a constraint and domains, by the chapter's words alone.
func plainRight(c api.Con, l []dom.Dom) bool {
	faults := 0
	if c.Kind != 6 {
		faults++
	}
	if !model.Right(c, len(l)) {
		faults++
	}
	for _, d := range l {
		if !dom.May(d) {
			faults++
		}
	}
	return faults == 0
}

// plainStep tells of each variable what it keeps, and true; none and false, if there is no step.
func plainStep(c api.Con, l []dom.Dom) ([][]int, bool) {
	if !plainRight(c, l) {
		return nil, false
	}
	own, rows := ownOf(c, l), plainRows(c.Nums, len(c.Vars))
	var answer [][]int
	for i, d := range l {
		at := slices.Index(c.Vars, i)
		keeps := []int{}
		for _, v := range left(d) {
			if at < 0 || plainKeeps(rows, own, at, v) {
				keeps = append(keeps, v)
			}
		}
		answer = append(answer, keeps)
	}
	return answer, true
}

// ownOf tells what is left of a constraint's own variables, in its order.
func ownOf(c api.Con, l []dom.Dom) [][]int {
	var own [][]int
	for _, i := range c.Vars {
		own = append(own, left(l[i]))
	}
	return own
}

// thrownDom tells a domain that may be, of few values or of many, of which some are left; of one in so many none is.
func thrownDom(d *dice, empty int) dom.Dom {
	var vals []int
	switch d.upTo(10) {
	case 0:
		vals = []int{-1 << 20, 1 - 1<<20, -7, -1, 0, 1, 5, 9, 1<<20 - 1, 1 << 20}
	case 1:
		for v, from := 0, d.upTo(40)-40; v < api.MostVals; v++ {
			vals = append(vals, from+v)
		}
	case 2:
		for v, by := 0, d.of(2, 3, 7); v < 20; v++ {
			vals = append(vals, (v-3)*by)
		}
	default:
		for v := -2; v <= 6; v++ {
			if d.upTo(4) > 0 {
				vals = append(vals, v)
			}
		}
	}
	if len(vals) == 0 {
		vals = []int{d.upTo(5) - 2}
	}
	a := dom.Dom{Vals: vals}
	if d.upTo(empty) == 0 {
		return a
	}
	for range d.of(1, 2, 4, 6, 9, 100, 100) {
		a.Live |= 1 << d.upTo(len(vals))
	}
	return a
}

// thrownRow tells a row, one number a domain: most often values of these, most of which are left, but not of each row.
func thrownRow(d *dice, own []dom.Dom) []int {
	var row []int
	odd := d.of(3, 10, 10, 1<<30, 1<<30)
	for _, one := range own {
		values := left(one)
		switch {
		case d.upTo(odd) > 0 && len(values) > 0:
			row = append(row, values[d.upTo(len(values))])
		case d.upTo(3) > 0 && len(one.Vals) > 0:
			row = append(row, one.Vals[d.upTo(len(one.Vals))])
		default:
			row = append(row, d.of(-1<<20, -2, -1, 0, 1, 2, 3, 1<<20))
		}
	}
	return row
}

// thrownNums tells the numbers of so many rows; some stand twice, and some are alike in all places but one.
func thrownNums(d *dice, own []dom.Dom, count int) []int {
	var nums []int
	for k := range count {
		row := thrownRow(d, own)
		if k > 0 && d.upTo(4) == 0 {
			from, at := d.upTo(k)*len(own), d.upTo(len(own))
			was := row[at]
			row = slices.Clone(nums[from : from+len(own)])
			row[at] = d.of(row[at], was)
		}
		nums = append(nums, row...)
	}
	return nums
}

// thrown tells a Table that may be, of so many of its own variables, among as many domains as are asked for.
func thrown(d *dice, terms, vars, empty int) (api.Con, []dom.Dom) {
	var l, own []dom.Dom
	for range vars {
		l = append(l, thrownDom(d, empty))
	}
	c := api.Con{Kind: api.Table, Vars: d.order(vars)[:terms]}
	for _, i := range c.Vars {
		own = append(own, l[i])
	}
	most := api.MostNums / terms
	c.Nums = thrownNums(d, own, min(most, d.of(0, 1, 2, 3, 3, 4, 4, 6, 6, 9, most)))
	return c, l
}
