package differ

import (
	"slices"

	"stratagem/api"
	"stratagem/dom"
	"stratagem/model"
)

// dice tells numbers that look thrown, the same ones in each run.
type dice uint64

func (d *dice) upTo(n int) int {
	*d = *d*6364136223846793005 + 1442695040888963407
	return int(uint64(*d) >> 33 % uint64(n))
}

// of tells one of some numbers.
func (d *dice) of(l ...int) int {
	return l[d.upTo(len(l))]
}

// order tells the numbers below n in an order that looks thrown.
func (d *dice) order(n int) []int {
	var l []int
	for i := range n {
		l = slices.Insert(l, d.upTo(i+1), i)
	}
	return l
}

// left tells the values of a domain whose places are in its set, by the words of chapter 4 alone.
func left(d dom.Dom) []int {
	l := []int{}
	for k, v := range d.Vals {
		if d.Live>>k&1 == 1 {
			l = append(l, v)
		}
	}
	return l
}

// plainTogether tells how many values are left of some variables, taken together.
func plainTogether(own [][]int) int {
	var l []int
	for _, values := range own {
		for _, v := range values {
			if !slices.Contains(l, v) {
				l = append(l, v)
			}
		}
	}
	return len(l)
}

// plainKeeps tells whether the variable at a place of the constraint keeps a value that is left of it.
func plainKeeps(own [][]int, at, v int) bool {
	if plainTogether(own) < len(own) {
		return false
	}
	for other, values := range own {
		if len(values) == 0 {
			return false
		}
		if other != at && slices.Equal(values, []int{v}) {
			return false
		}
	}
	return true
}

// plainRight tells whether there is a step of a constraint and domains, by the chapter's words alone.
func plainRight(c api.Con, l []dom.Dom) bool {
	faults := 0
	if c.Kind != 5 {
		faults++
	}
	if !model.Right(c, len(l)) {
		faults++
	}
	for _, d := range l {
		if !dom.May(d) {
			faults++
		}
	}
	return faults == 0
}

// plainStep tells of each variable what it keeps, and true; none and false, if there is no step.
func plainStep(c api.Con, l []dom.Dom) ([][]int, bool) {
	if !plainRight(c, l) {
		return nil, false
	}
	own := ownOf(c, l)
	var answer [][]int
	for i, d := range l {
		at := slices.Index(c.Vars, i)
		keeps := []int{}
		for _, v := range left(d) {
			if at < 0 || plainKeeps(own, at, v) {
				keeps = append(keeps, v)
			}
		}
		answer = append(answer, keeps)
	}
	return answer, true
}

// ownOf tells what is left of a constraint's own variables, in its order.
func ownOf(c api.Con, l []dom.Dom) [][]int {
	var own [][]int
	for _, i := range c.Vars {
		own = append(own, left(l[i]))
	}
	return own
}

// thrownDom tells a domain that may be, of few values or of many, of which some are left; of one in so many none is.
func thrownDom(d *dice, empty int) dom.Dom {
	var vals []int
	switch d.upTo(12) {
	case 0:
		vals = []int{-1 << 20, 1 - 1<<20, -7, -1, 0, 1, 5, 9, 1<<20 - 1, 1 << 20}
	case 1:
		for v, from := 0, d.upTo(40)-40; v < api.MostVals; v++ {
			vals = append(vals, from+v)
		}
	case 2:
		for v, by := 0, d.of(2, 3, 7); v < 20; v++ {
			vals = append(vals, (v-3)*by)
		}
	default:
		for v := -2; v <= 6; v++ {
			if d.upTo(3) > 0 {
				vals = append(vals, v)
			}
		}
	}
	if len(vals) == 0 {
		vals = []int{d.upTo(5) - 2}
	}
	a := dom.Dom{Vals: vals}
	if d.upTo(empty) == 0 {
		return a
	}
	for range d.of(1, 1, 2, 2, 3, 4, 100) {
		a.Live |= 1 << d.upTo(len(vals))
	}
	return a
}

// thrown tells a Differ that may be, of so many of its own variables, among as many domains as are asked for.
func thrown(d *dice, terms, vars, empty int) (api.Con, []dom.Dom) {
	var l []dom.Dom
	for range vars {
		l = append(l, thrownDom(d, empty))
	}
	return api.Con{Kind: api.Differ, Vars: d.order(vars)[:terms]}, l
}
