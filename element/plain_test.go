package element

import (
	"slices"

	"stratagem/api"
	"stratagem/dom"
	"stratagem/model"
)

// dice tells numbers that look thrown, the same ones in each run.
type dice uint64

func (d *dice) upTo(n int) int {
	*d = *d*6364136223846793005 + 1442695040888963407
	return int(uint64(*d) >> 33 % uint64(n))
}

// of tells one of some numbers.
func (d *dice) of(l ...int) int {
	return l[d.upTo(len(l))]
}

// order tells the numbers below n in an order that looks thrown.
func (d *dice) order(n int) []int {
	var l []int
	for i := range n {
		l = slices.Insert(l, d.upTo(i+1), i)
	}
	return l
}

// left tells the values of a domain whose places are in its set, by the words of chapter 4 alone.
func left(d dom.Dom) []int {
	l := []int{}
	for k, v := range d.Vals {
		if d.Live>>k&1 == 1 {
			l = append(l, v)
		}
	}
	return l
}

// plainRows tells all rows of values that are left of which the constraint holds: each number of the list, that stands
// where the first one says, with each second one that is this number.
func plainRows(nums []int, firsts, seconds []int) [][2]int {
	var rows [][2]int
	for place, n := range nums {
		for _, first := range firsts {
			for _, second := range seconds {
				if first == place && second == n {
					rows = append(rows, [2]int{first, second})
				}
			}
		}
	}
	return rows
}

// plainRight tells whether there is a step of a constraint and domains, by the chapter's words alone.
func plainRight(c api.Con, l []dom.Dom) bool {
	faults := 0
	if c.Kind != 4 {
		faults++
	}
	if !model.Right(c, len(l)) {
		faults++
	}
	for _, d := range l {
		if !dom.May(d) {
			faults++
		}
	}
	return faults == 0
}

// plainStep tells of each variable what it keeps, and true; none and false, if there is no step.
func plainStep(c api.Con, l []dom.Dom) ([][]int, bool) {
	if !plainRight(c, l) {
		return nil, false
	}
	rows := plainRows(c.Nums, left(l[c.Vars[0]]), left(l[c.Vars[1]]))
	var answer [][]int
	for i, d := range l {
		at := slices.Index(c.Vars, i)
		keeps := []int{}
		for _, v := range left(d) {
			if at < 0 || slices.ContainsFunc(rows, func(row [2]int) bool { return row[at] == v }) {
				keeps = append(keeps, v)
			}
		}
		answer = append(answer, keeps)
	}
	return answer, true
}

// thrownDom tells a domain that may be, of few values or of many, of which some are left; of one in so many none is.
func thrownDom(d *dice, empty int) dom.Dom {
	var vals []int
	switch d.upTo(9) {
	case 0:
		vals = []int{0, 1}
	case 1:
		vals = []int{-1 << 20, 1 - 1<<20, -7, -1, 0, 1, 5, 95, 96, 1<<20 - 1, 1 << 20}
	case 2:
		for v, from := 0, d.upTo(120)-20; v < api.MostVals; v++ {
			vals = append(vals, from+v)
		}
	case 3:
		for v, by := 0, d.of(2, 3, 7); v < 20; v++ {
			vals = append(vals, (v-3)*by)
		}
	default:
		for v := -4; v <= 12; v++ {
			if d.upTo(2) == 0 {
				vals = append(vals, v)
			}
		}
	}
	if len(vals) == 0 {
		vals = []int{d.upTo(9) - 4}
	}
	a := dom.Dom{Vals: vals}
	if d.upTo(empty) == 0 {
		return a
	}
	most := d.of(1, 2, 2, 4, 7, 100)
	for range most {
		a.Live |= 1 << d.upTo(len(vals))
	}
	return a
}

// thrownNums tells numbers that a list may have, many of them twice or more.
func thrownNums(d *dice) []int {
	var l []int
	wide := d.of(2, 3, 9, 40)
	for range d.of(1, 2, 3, 5, 8, 13, 30, 95, 96) {
		switch d.upTo(12) {
		case 0:
			l = append(l, d.of(-1<<20, 1-1<<20, 1<<20-1, 1<<20))
		case 1:
			l = append(l, d.upTo(1<<21)-1<<20)
		default:
			l = append(l, d.upTo(wide)-d.upTo(3))
		}
	}
	return l
}

// thrownLive tells a domain of which all is left but one value of so many; of one in so many none is.
func thrownLive(d *dice, a dom.Dom, gone, empty int) dom.Dom {
	if d.upTo(empty) == 0 {
		return a
	}
	for k := range a.Vals {
		if d.upTo(gone) > 0 {
			a.Live |= 1 << k
		}
	}
	return a
}

// thrownPlaces tells a domain of places of so many numbers, most of which are left, and often of some beside them.
func thrownPlaces(d *dice, count, empty int) dom.Dom {
	var a dom.Dom
	from, to := max(0, count-d.of(1, 3, 9, 60, 96)), count-1
	for v := from - d.of(0, 0, 2); v <= to+d.of(0, 0, 2) && len(a.Vals) < api.MostVals; v++ {
		a.Vals = append(a.Vals, v)
	}
	return thrownLive(d, a, 4, empty)
}

// thrown tells an Element that may be, of domains (2 at least) that are thrown for it; often the first one's variable has
// places of the list, and the second one's has numbers of it.
func thrown(d *dice, vars, empty int) (api.Con, []dom.Dom) {
	var l []dom.Dom
	for range vars {
		l = append(l, thrownDom(d, empty))
	}
	c := api.Con{Kind: api.Element, Vars: d.order(vars)[:2], Nums: thrownNums(d)}
	if d.upTo(3) > 0 {
		l[c.Vars[0]] = thrownPlaces(d, len(c.Nums), empty)
	}
	if d.upTo(3) == 0 {
		return c, l
	}
	told := []int{d.upTo(9) - 4}
	for _, n := range c.Nums {
		if d.upTo(3) > 0 {
			told = append(told, n, min(max(n+d.of(1, -1, 2, 7), -1<<20), 1<<20))
		}
	}
	slices.Sort(told)
	told = slices.Compact(told)
	from := d.upTo(len(told))
	second := dom.Dom{Vals: slices.Clone(told[from:min(from+api.MostVals, len(told))])}
	l[c.Vars[1]] = thrownLive(d, second, 3, empty)
	return c, l
}
