package model

import (
	"math"
	"regexp"
	"slices"
	"strings"
	"testing"

	"stratagem/api"
)

// words are those that no name may be.
var words = []string{
	"exists", "forall", "in", "where", "and", "goal", "true", "product", "iff", "element", "different", "table",
}

// plainName tells whether a name may be, by the chapter's words alone.
func plainName(s string) bool {
	return regexp.MustCompile(`\A[a-z][a-z0-9_]{0,11}\z`).MatchString(s) && !slices.Contains(words, s)
}

// rising are so many numbers, from 0 on.
func rising(n int) []int {
	var l []int
	for i := range n {
		l = append(l, i)
	}
	return l
}

// times is a number, so often.
func times(n, v int) []int {
	return slices.Repeat([]int{v}, n)
}

// kinds are all kinds of constraints that there are.
var kinds = []int{api.Linear, api.Product, api.Iff, api.Element, api.Differ, api.Table}

// spread tells of a kind how many Vars a constraint may have, at least and at most, as the chapter has it.
func spread(kind int) (least, most int) {
	switch kind {
	case api.Linear, api.Table:
		return 1, 8
	case api.Product:
		return 3, 3
	case api.Iff:
		return 2, 9
	case api.Element:
		return 2, 2
	}
	return 2, 8
}

// con is a constraint that may be, but for how many Vars it has, if that is so.
func con(kind, vars int) api.Con {
	c := api.Con{Kind: kind, Vars: rising(vars)}
	switch kind {
	case api.Linear:
		c.Coefs, c.Rel, c.Const = times(vars, -3), api.LE, 7
	case api.Iff:
		c.Coefs, c.Rel, c.Const = times(max(vars-1, 0), 2), api.GT, -5
	case api.Element:
		c.Nums = []int{4, -4, 4}
	case api.Table:
		c.Nums = times(2*vars, 1)
	}
	return c
}

// of is a constraint of a kind, of as few variables as may be, with a change.
func of(kind int, change func(c *api.Con)) api.Con {
	least, _ := spread(kind)
	c := con(kind, least)
	change(&c)
	return c
}

// may looks whether a constraint may be, or not, of so many variables.
func may(t *testing.T, want bool, c api.Con, vars int) {
	t.Helper()
	if Right(c, vars) != want {
		t.Errorf("Right(%s, %d): not %t", short(c), vars, want)
	}
}

// P8.1: names of each length, of letters, digits and _.
func TestName(t *testing.T) {
	for _, s := range []string{
		"x", "z", "a", "x1", "x_", "a0", "z9", "a__", "x_1_y", "abcdefghijkl", "mnopqrstuvwx", "yz0123456789", "a___________",
		"a1234567890", "infinite", "exist", "goals", "trueish",
	} {
		if !Name(s) {
			t.Errorf("Name(%q): false", s)
		}
	}
	for _, s := range []string{
		"", "abcdefghijklm", "a123456789012", strings.Repeat("a", 24), strings.Repeat("a", 1<<20), "a____________",
		"1", "0", "9x", "0abcdefghijk", "_", "_a", "__", "_12", "A", "Z", "Ab", "X1", "aB", "abcdefghijkL", "xY", "x1Z",
		"x y", " x", "x ", "x\n", "\nx", "x\x00", "\x00", "x-y", "x.y", "x'", "é", "xé", "x\xff", "\xff", "\uff41", "x²",
	} {
		if Name(s) {
			t.Errorf("Name(%.40q): true", s)
		}
	}
}

// P8.1: names of all bytes, in each place of names of up to 13 bytes.
func TestNameBytes(t *testing.T) {
	for size := range 14 {
		for at := range size {
			for b := range 256 {
				s := []byte(strings.Repeat("q", size))
				s[at] = byte(b)
				if Name(string(s)) != plainName(string(s)) {
					t.Errorf("Name(%q): not %t", s, plainName(string(s)))
				}
			}
		}
	}
}

// P8.1: no name is one of the twelve words; one may be that has a byte more, or less, or another one.
func TestNameWords(t *testing.T) {
	if len(words) != 12 {
		t.Fatal("words")
	}
	for _, w := range words {
		if Name(w) {
			t.Errorf("Name(%q): true", w)
		}
		for _, s := range []string{w + "s", w + "_", w + "0", "a" + w, w[:len(w)-1], w[1:], w[:1], w + w[:2], "x" + w[1:], w[:len(w)-1] + "9"} {
			if !Name(s) {
				t.Errorf("Name(%q): false", s)
			}
		}
		for _, s := range []string{strings.ToUpper(w), strings.ToUpper(w[:1]) + w[1:], "_" + w, "1" + w, w + " ", " " + w} {
			if Name(s) {
				t.Errorf("Name(%q): true", s)
			}
		}
	}
}

// P8.1: of each kind each count of Vars, of as many variables as they need, of more, and of fewer.
func TestRightVars(t *testing.T) {
	for _, kind := range kinds {
		least, most := spread(kind)
		for n := range 20 {
			c := con(kind, n)
			right := n >= least && n <= most
			may(t, right, c, n)
			may(t, right, c, n+1)
			may(t, right, c, api.MostVars+n)
			may(t, right, c, math.MaxInt)
			may(t, false, c, n-1)
			may(t, false, c, 0)
			may(t, false, c, -1)
			may(t, false, c, math.MinInt)
		}
	}
}

// P8.1: of each kind, at each place of its Vars, numbers of variables that there aren't, and one that stands twice.
func TestRightWhichVars(t *testing.T) {
	for _, kind := range kinds {
		least, most := spread(kind)
		for n := least; n <= most; n++ {
			for at := range n {
				for _, v := range []struct {
					v     int
					right bool
				}{
					{-1, false}, {-2, false}, {math.MinInt, false}, {11, true}, {12, false}, {13, false}, {1 << 32, false},
					{math.MaxInt, false}, {at, true}, {(at + 1) % n, n == 1}, {(at + n - 1) % n, n == 1},
				} {
					c := con(kind, n)
					c.Vars[at] = v.v
					may(t, v.right, c, 12)
				}
			}
			falling := con(kind, n)
			slices.Reverse(falling.Vars)
			may(t, true, falling, n)
			last := con(kind, n)
			for i := range last.Vars {
				last.Vars[i] = api.MostVars - 1 - i
			}
			may(t, true, last, api.MostVars)
			may(t, false, last, api.MostVars-1)
		}
	}
}

// P8.1: of Linear as many Coefs as Vars, of Iff one less, of another kind none.
func TestRightCoefs(t *testing.T) {
	for _, kind := range kinds {
		least, most := spread(kind)
		for n := least; n <= most; n++ {
			want := 0
			switch kind {
			case api.Linear:
				want = n
			case api.Iff:
				want = n - 1
			}
			for coefs := range 12 {
				c := con(kind, n)
				c.Coefs = times(coefs, 5)
				may(t, coefs == want, c, 16)
			}
		}
	}
}

// P8.1: at each place of the Coefs of Linear and of Iff, numbers at the ends and beyond, and 0.
func TestRightWhichCoefs(t *testing.T) {
	for _, kind := range []int{api.Linear, api.Iff} {
		_, most := spread(kind)
		for at := range 8 {
			for _, v := range []struct {
				v     int
				right bool
			}{
				{0, false}, {1, true}, {-1, true}, {1 << 20, true}, {-1 << 20, true}, {1<<20 + 1, false}, {-1<<20 - 1, false},
				{1<<20 - 1, true}, {1 - 1<<20, true}, {1 << 32, false}, {-1 << 32, false}, {1<<32 + 1, false},
				{math.MaxInt, false}, {math.MinInt, false}, {math.MinInt + 1, false},
			} {
				c := con(kind, most)
				c.Coefs[at] = v.v
				may(t, v.right, c, most)
			}
		}
	}
}

// P8.1: Rels and Consts, at their ends and beyond: of Linear and Iff alone they are told, of others they are 0.
func TestRightRelAndConst(t *testing.T) {
	for _, kind := range kinds {
		told := kind == api.Linear || kind == api.Iff
		for rel := -10; rel <= 16; rel++ {
			may(t, rel == 0 || told && rel > 0 && rel < 6, of(kind, func(c *api.Con) { c.Rel = rel }), 16)
		}
		for _, rel := range []int{math.MinInt, math.MaxInt, 1 << 32, 1<<32 + 1, -1 << 32} {
			may(t, false, of(kind, func(c *api.Con) { c.Rel = rel }), 16)
		}
		for _, n := range []int{1, -1, 1 << 20, 1<<20 + 1, 1 << 32, 1<<40 - 1, 1 << 40, 1 - 1<<40, -1 << 40} {
			may(t, told, of(kind, func(c *api.Con) { c.Const = n }), 16)
		}
		may(t, true, of(kind, func(c *api.Con) { c.Const = 0 }), 16)
		for _, n := range []int{1<<40 + 1, -1<<40 - 1, 1 << 41, -1 << 41, 1 << 62, math.MaxInt, math.MinInt, math.MinInt + 1} {
			may(t, false, of(kind, func(c *api.Con) { c.Const = n }), 16)
		}
	}
}

// P8.1: how many Nums: of Element 1 to 96, of Table up to 96, as many as rows have; of others none.
func TestRightNums(t *testing.T) {
	for _, kind := range kinds {
		least, most := spread(kind)
		for vars := least; vars <= most; vars++ {
			for n := range 200 {
				c := con(kind, vars)
				c.Nums = times(n, -9)
				want := n == 0
				switch kind {
				case api.Element:
					want = n >= 1 && n <= 96
				case api.Table:
					want = n <= 96 && n%vars == 0
				}
				may(t, want, c, 16)
			}
		}
	}
}

// P8.1: at each place of the Nums of Element and of Table, numbers at the ends and beyond.
func TestRightWhichNums(t *testing.T) {
	for _, kind := range []int{api.Element, api.Table} {
		for at := range 96 {
			for _, v := range []struct {
				v     int
				right bool
			}{
				{0, true}, {1, true}, {-1, true}, {1 << 20, true}, {-1 << 20, true}, {1<<20 + 1, false}, {-1<<20 - 1, false},
				{1 << 32, false}, {-1 << 32, false}, {math.MaxInt, false}, {math.MinInt, false}, {math.MinInt + 1, false},
			} {
				c := of(kind, func(c *api.Con) { c.Nums = times(96, 3) })
				c.Nums[at] = v.v
				may(t, v.right, c, 16)
			}
		}
	}
}

// P8.1: kinds that there aren't, whatever the constraint has beside.
func TestRightKind(t *testing.T) {
	for _, kind := range []int{0, 7, 8, -1, -6, 1<<32 + 1, 1 << 40, math.MaxInt, math.MinInt} {
		may(t, false, api.Con{Kind: kind}, 16)
		for _, k := range kinds {
			may(t, true, of(k, func(c *api.Con) {}), 16)
			may(t, false, of(k, func(c *api.Con) { c.Kind = kind }), 16)
		}
	}
	for _, kind := range kinds {
		may(t, false, api.Con{Kind: kind}, 16)
		may(t, false, api.Con{Kind: kind, Vars: []int{}, Coefs: []int{}, Nums: []int{}}, 16)
	}
}

// P8.1: a constraint of one kind may be one of another kind just if that has the same parts.
func TestRightOtherKind(t *testing.T) {
	for _, kind := range kinds {
		for vars := range 10 {
			c := con(kind, vars)
			for _, other := range kinds {
				c.Kind = other
				may(t, plainRight(c, 16), c, 16)
			}
		}
	}
	pair := api.Con{Kind: api.Differ, Vars: []int{0, 1}}
	may(t, true, pair, 2)
	pair.Kind = api.Table
	may(t, true, pair, 2)
	pair.Kind = api.Element
	may(t, false, pair, 2)
}

// R6: a list that is empty is one that is missing.
func TestRightEmpty(t *testing.T) {
	for _, kind := range kinds {
		c := of(kind, func(c *api.Con) {
			c.Vars = slices.Concat([]int{}, c.Vars)
			c.Coefs = append([]int{}, c.Coefs...)
			c.Nums = append([]int{}, c.Nums...)
		})
		may(t, true, c, 16)
	}
	may(t, true, api.Con{Kind: api.Table, Vars: []int{0}, Nums: []int{}}, 1)
	may(t, true, api.Con{Kind: api.Table, Vars: []int{0}}, 1)
	may(t, false, api.Con{Kind: api.Element, Vars: []int{0, 1}, Nums: []int{}}, 2)
}

// plainRight tells whether a constraint may be, by the chapter's words alone: which ones hold is counted.
func plainRight(c api.Con, vars int) bool {
	least, most := spread(c.Kind)
	faults := 0
	fault := func(is bool) {
		if is {
			faults++
		}
	}
	among := func(n, low, high int) bool { return low <= n && n <= high }
	fault(!among(c.Kind, 1, 6))
	fault(!among(len(c.Vars), least, most))
	seen := map[int]int{}
	for _, v := range c.Vars {
		seen[v]++
		fault(!among(v, 0, vars-1) || seen[v] > 1)
	}
	coefs := map[int]int{api.Linear: len(c.Vars), api.Iff: len(c.Vars) - 1}[c.Kind]
	fault(len(c.Coefs) != coefs)
	for _, k := range c.Coefs {
		fault(k == 0 || !among(k, -1048576, 1048576))
	}
	if c.Kind == api.Linear || c.Kind == api.Iff {
		fault(!among(c.Rel, 0, 5))
		fault(!among(c.Const, -1099511627776, 1099511627776))
	} else {
		fault(c.Rel != 0)
		fault(c.Const != 0)
	}
	switch c.Kind {
	case api.Element:
		fault(!among(len(c.Nums), 1, 96))
	case api.Table:
		fault(!among(len(c.Nums), 0, 96) || len(c.Nums)%max(len(c.Vars), 1) != 0)
	default:
		fault(len(c.Nums) != 0)
	}
	for _, n := range c.Nums {
		fault(!among(n, -1048576, 1048576))
	}
	return faults == 0
}

// P8.1: constraints of thrown parts, most of them near those that may be, as the chapter's words have them.
func TestRightThrown(t *testing.T) {
	d := dice(8)
	edges := []int{0, 0, 1, -1, 2, 5, 6, 1 << 20, -1 << 20, 1<<20 + 1, -1<<20 - 1, 1 << 40, -1 << 40, 1<<40 + 1, -1<<40 - 1, math.MinInt, math.MaxInt}
	rights := 0
	for range 200000 {
		c := con(d.upTo(6)+1, d.upTo(5)+1)
		for range d.upTo(3) {
			n := edges[d.upTo(len(edges))]
			switch d.upTo(9) {
			case 0:
				c.Kind = d.upTo(8)
			case 1:
				c.Vars = append(c.Vars, d.upTo(8)-1)
			case 2:
				c.Coefs = append(c.Coefs, n)
			case 3:
				c.Nums = append(c.Nums, n)
			case 4:
				c.Rel = n
			case 5:
				c.Const = n
			case 6:
				c.Vars = c.Vars[min(1, len(c.Vars)):]
			case 7:
				c.Coefs = c.Coefs[min(1, len(c.Coefs)):]
			case 8:
				c.Nums = c.Nums[min(1, len(c.Nums)):]
			}
		}
		vars := d.upTo(7)
		if plainRight(c, vars) {
			rights++
		}
		may(t, plainRight(c, vars), c, vars)
	}
	if rights < 10000 || rights > 190000 {
		t.Errorf("%d of 200000 may be", rights)
	}
}

// R1: constraints of very many parts.
func TestRightGreat(t *testing.T) {
	many := rising(1 << 20)
	for _, kind := range append([]int{0, 7}, kinds...) {
		may(t, false, api.Con{Kind: kind, Vars: many, Coefs: many, Nums: many}, math.MaxInt)
		may(t, false, of(min(max(kind, 1), 6), func(c *api.Con) { c.Vars = many }), math.MaxInt)
		may(t, false, of(min(max(kind, 1), 6), func(c *api.Con) { c.Coefs = many[1:] }), math.MaxInt)
		may(t, false, of(min(max(kind, 1), 6), func(c *api.Con) { c.Nums = many }), math.MaxInt)
	}
}
