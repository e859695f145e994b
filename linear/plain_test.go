package linear

import (
	"cmp"
	"fmt"
	"slices"

	"stratagem/api"
	"stratagem/dom"
	"stratagem/model"
)

// dice tells numbers that look thrown, the same ones in each run.
type dice uint64

func (d *dice) upTo(n int) int {
	*d = *d*6364136223846793005 + 1442695040888963407
	return int(uint64(*d) >> 33 % uint64(n))
}

// of tells one of some numbers.
func (d *dice) of(l ...int) int {
	return l[d.upTo(len(l))]
}

// order tells the numbers below n in an order that looks thrown.
func (d *dice) order(n int) []int {
	var l []int
	for i := range n {
		l = slices.Insert(l, d.upTo(i+1), i)
	}
	return l
}

// left tells the values of a domain whose places are in its set, by the words of chapter 4 alone.
func left(d dom.Dom) []int {
	l := []int{}
	for k, v := range d.Vals {
		if d.Live>>k&1 == 1 {
			l = append(l, v)
		}
	}
	return l
}

// compared tells of each rel whether it holds of a sum that is less, the same, and more.
var compared = [6][3]bool{
	api.EQ: {false, true, false},
	api.NE: {true, false, true},
	api.LT: {true, false, false},
	api.LE: {true, true, false},
	api.GT: {false, false, true},
	api.GE: {false, true, true},
}

// contrary are the contrary rels.
var contrary = [6]int{api.EQ: api.NE, api.NE: api.EQ, api.LT: api.GE, api.LE: api.GT, api.GT: api.LE, api.GE: api.LT}

// plainEnds tells the least and the greatest sum, of values that rise: of all the sums that ends of them make.
func plainEnds(coefs []int, own [][]int) (int, int) {
	l := []int{0}
	for at, values := range own {
		var longer []int
		for _, sum := range l {
			longer = append(longer, sum+coefs[at]*values[0], sum+coefs[at]*values[len(values)-1])
		}
		l = longer
	}
	return slices.Min(l), slices.Max(l)
}

// plainMay tells whether a rel holds of one of the sums from a least one to a greatest one: of one end, the other, or
// the one that is nearest to the number.
func plainMay(coefs []int, own [][]int, rel, number int) bool {
	low, high := plainEnds(coefs, own)
	for _, sum := range []int{low, high, min(max(number, low), high)} {
		if compared[rel][1+cmp.Compare(sum, number)] {
			return true
		}
	}
	return false
}

// plainKeeps tells whether a variable keeps a value, by the chapter's words alone.
func plainKeeps(c api.Con, l []dom.Dom, variable, v int) bool {
	at := slices.Index(c.Vars, variable)
	if at < 0 {
		return true
	}
	var own [][]int
	for _, i := range c.Vars {
		own = append(own, left(l[i]))
		if len(left(l[i])) == 0 {
			return false
		}
	}
	if c.Kind == api.Linear {
		own[at] = []int{v}
		return plainMay(c.Coefs, own, c.Rel, c.Const)
	}
	if at == 0 {
		return v == 1 && plainMay(c.Coefs, own[1:], c.Rel, c.Const) || v == 0 && plainMay(c.Coefs, own[1:], contrary[c.Rel], c.Const)
	}
	own[at] = []int{v}
	switch fmt.Sprint(slices.Contains(own[0], 0), slices.Contains(own[0], 1)) {
	case "false true":
		return plainMay(c.Coefs, own[1:], c.Rel, c.Const)
	case "true false":
		return plainMay(c.Coefs, own[1:], contrary[c.Rel], c.Const)
	case "true true":
		return true
	}
	return false
}

// plainRight tells whether there is a step of a constraint and domains, by the chapter's words alone.
func plainRight(c api.Con, l []dom.Dom) bool {
	faults := 0
	if c.Kind != 1 && c.Kind != 3 {
		faults++
	}
	if !model.Right(c, len(l)) {
		faults++
	}
	for _, d := range l {
		if !dom.May(d) {
			faults++
		}
	}
	return faults == 0
}

// plainStep tells of each variable what it keeps, and true; none and false, if there is no step.
func plainStep(c api.Con, l []dom.Dom) ([][]int, bool) {
	if !plainRight(c, l) {
		return nil, false
	}
	var answer [][]int
	for i, d := range l {
		keeps := []int{}
		for _, v := range left(d) {
			if plainKeeps(c, l, i, v) {
				keeps = append(keeps, v)
			}
		}
		answer = append(answer, keeps)
	}
	return answer, true
}

// thrownDom tells a domain that may be, of few values or of many, of which some are left; of one in so many none is.
func thrownDom(d *dice, empty int) dom.Dom {
	var vals []int
	switch d.upTo(8) {
	case 0:
		vals = []int{0, 1}
	case 1:
		vals = []int{-1 << 20, 1 - 1<<20, -1, 0, 1, 5, 1<<20 - 1, 1 << 20}
	case 2:
		for v, from := 0, d.upTo(90)-60; v < api.MostVals; v++ {
			vals = append(vals, from+v)
		}
	default:
		for v := -5; v <= 6; v++ {
			if d.upTo(2) == 0 {
				vals = append(vals, v)
			}
		}
	}
	if len(vals) == 0 {
		vals = []int{d.upTo(9) - 4}
	}
	a := dom.Dom{Vals: vals}
	if d.upTo(empty) == 0 {
		return a
	}
	most := d.of(1, 2, 2, 4, 100)
	for range most {
		a.Live |= 1 << d.upTo(len(vals))
	}
	return a
}

// thrownFirst tells a domain that the first variable of an Iff might have.
func thrownFirst(d *dice) dom.Dom {
	return dom.Dom{Vals: []int{-1, 0, 1, 2}, Live: uint64(d.of(2, 4, 6, 6, 2, 4, 3, 5, 7, 10, 12, 14, 15, 1, 8, 9))}
}

// thrown tells a constraint that may be, of domains (at least 9 and most of them left) that are thrown for it; its Const
// is one of the sums, or near one.
func thrown(d *dice, vars, empty int) (api.Con, []dom.Dom) {
	var l []dom.Dom
	for range vars {
		l = append(l, thrownDom(d, empty))
	}
	c := api.Con{Kind: d.of(api.Linear, api.Iff), Rel: d.upTo(6)}
	terms := 1 + d.upTo(4)
	if d.upTo(8) == 0 {
		terms = api.MostTerms
	}
	c.Vars = d.order(vars)[:terms+c.Kind/2]
	if c.Kind == api.Iff && d.upTo(6) > 0 {
		l[c.Vars[0]] = thrownFirst(d)
	}
	for _, i := range c.Vars[c.Kind/2:] {
		k := d.of(1, -1, 1, -1, 2, -2, 3, -5, d.of(1<<20, -1<<20, 7))
		c.Coefs = append(c.Coefs, k)
		if values := left(l[i]); len(values) > 0 {
			c.Const += k * values[d.upTo(len(values))]
		}
	}
	c.Const = min(max(c.Const+d.of(0, 0, 0, 1, -1, 2, -3, 20), -1<<40), 1<<40)
	return c, l
}
