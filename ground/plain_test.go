package ground

import (
	"fmt"
	"math/big"
	"slices"

	"stratagem/api"
	"stratagem/model"
)

// dice tells numbers that look thrown, the same ones in each run.
type dice uint64

func (d *dice) upTo(n int) int {
	*d = *d*6364136223846793005 + 1442695040888963407
	return int(uint64(*d) >> 33 % uint64(n))
}

// of tells one of some numbers.
func (d *dice) of(l ...int) int {
	return l[d.upTo(len(l))]
}

// order tells the numbers below n in an order that looks thrown.
func (d *dice) order(n int) []int {
	var l []int
	for i := range n {
		l = slices.Insert(l, d.upTo(i+1), i)
	}
	return l
}

// plainRight tells whether constraints and a row may be, by the chapter's words alone.
func plainRight(l []api.Con, row []int) bool {
	faults := 0
	for _, v := range row {
		if v < -1048576 {
			faults++
		}
		if v > 1048576 {
			faults++
		}
	}
	for _, c := range l {
		if !model.Right(c, len(row)) {
			faults++
		}
	}
	return faults == 0
}

// plainHolds tells whether a constraint holds of a row, by the chapter's words alone.
func plainHolds(c api.Con, row []int) bool {
	if !plainRight([]api.Con{c}, row) {
		return false
	}
	var own []*big.Int
	for _, v := range c.Vars {
		own = append(own, big.NewInt(int64(row[v])))
	}
	switch c.Kind {
	case api.Linear:
		return plainSum(c, own)
	case api.Iff:
		return own[0].String() == map[bool]string{true: "1", false: "0"}[plainSum(c, own[1:])]
	case api.Product:
		return new(big.Int).Mul(own[0], own[1]).Cmp(own[2]) == 0
	case api.Element:
		for i, n := range c.Nums {
			if fmt.Sprint(own) == fmt.Sprint([]int{i, n}) {
				return true
			}
		}
		return false
	case api.Differ:
		had := map[string]bool{}
		for _, v := range own {
			had[v.String()] = true
		}
		return len(had) == len(own)
	}
	for at := 0; at < len(c.Nums); at += len(own) {
		if fmt.Sprint(own) == fmt.Sprint(c.Nums[at:at+len(own)]) {
			return true
		}
	}
	return false
}

// plainSum tells whether the sum of a constraint's Coefs times values compares to Const.
func plainSum(c api.Con, values []*big.Int) bool {
	sum := new(big.Int)
	for i, v := range values {
		sum.Add(sum, new(big.Int).Mul(v, big.NewInt(int64(c.Coefs[i]))))
	}
	return compared[c.Rel][1+sum.Cmp(big.NewInt(int64(c.Const)))]
}

// compared tells of each rel whether it holds of a sum that is less, the same, and more.
var compared = [6][3]bool{
	api.EQ: {false, true, false},
	api.NE: {true, false, true},
	api.LT: {true, false, false},
	api.LE: {true, true, false},
	api.GT: {false, false, true},
	api.GE: {false, true, true},
}

// plainAll tells whether all constraints hold of a row, by the chapter's words alone.
func plainAll(l []api.Con, row []int) bool {
	hold := 0
	for _, c := range l {
		if plainHolds(c, row) {
			hold++
		}
	}
	return plainRight(l, row) && hold == len(l)
}

// thrown tells a constraint that may be, of so many variables (9 at least).
func thrown(d *dice, vars int) api.Con {
	c := api.Con{Kind: d.upTo(6) + 1}
	own := map[int]int{
		api.Linear: 1 + d.upTo(4), api.Product: 3, api.Iff: 2 + d.upTo(3), api.Element: 2, api.Differ: 2 + d.upTo(3), api.Table: 1 + d.upTo(2),
	}[c.Kind]
	if d.upTo(8) == 0 && (c.Kind == api.Linear || c.Kind == api.Differ || c.Kind == api.Table) {
		own = api.MostTerms
	}
	c.Vars = d.order(vars)[:own]
	switch c.Kind {
	case api.Linear, api.Iff:
		c.Rel, c.Const = d.upTo(6), d.of(0, 1, -1, 2, -3, 4, 1<<20, -1<<20, 1<<40, -1<<40)
		for range own - c.Kind/2 {
			c.Coefs = append(c.Coefs, d.of(1, -1, 2, -2, 3, 1<<20, -1<<20))
		}
	case api.Element:
		for range 1 + d.upTo(5) {
			c.Nums = append(c.Nums, d.upTo(4)-1)
		}
	case api.Table:
		for range own * d.upTo(6) {
			c.Nums = append(c.Nums, d.upTo(3)-1)
		}
	}
	return c
}

// near tells a row of so many values, most of them small.
func near(d *dice, vars int) []int {
	row := []int{}
	for range vars {
		row = append(row, d.of(0, 1, -1, 2, 1, 0, -2, 3, 4, d.of(1<<20, -1<<20, 1<<10, -1<<10, 0, 1, 2)))
	}
	return row
}
