package sums

import (
	"math"
	"math/big"
	"slices"
	"testing"

	"stratagem/api"
)

const (
	top    = math.MaxInt64
	bottom = math.MinInt64
)

// edges are numbers about which sums and products cease to be numbers of 64 bits, to both sides.
func edges() []int64 {
	var l []int64
	for _, n := range []int64{0, 1 << 15, 1 << 20, 1 << 31, 1 << 32, 1 << 40, 1 << 61, 1 << 62, 3037000499, 3037000500, top / 3, top / 2} {
		for d := int64(-2); d <= 2; d++ {
			l = append(l, n+d, -n+d)
		}
	}
	for d := int64(0); d <= 2; d++ {
		l = append(l, top-d, bottom+d)
	}
	slices.Sort(l)
	return slices.Compact(l)
}

// narrow tells what is to be answered of a number without bounds.
func narrow(n *big.Int) (int64, api.Errno) {
	if !n.IsInt64() {
		return 0, api.ErrOver
	}
	return n.Int64(), api.OK
}

// P1.1: Add and Mul tell the sum and the product, or 0 and ErrOver, at all edges.
func TestAddAndMulAtEdges(t *testing.T) {
	for _, a := range edges() {
		for _, b := range edges() {
			x, y := big.NewInt(a), big.NewInt(b)
			want, wantE := narrow(new(big.Int).Add(x, y))
			if n, e := Add(a, b); n != want || e != wantE {
				t.Errorf("Add(%d, %d): %d, %d; want %d, %d", a, b, n, e, want, wantE)
			}
			want, wantE = narrow(new(big.Int).Mul(x, y))
			if n, e := Mul(a, b); n != want || e != wantE {
				t.Errorf("Mul(%d, %d): %d, %d; want %d, %d", a, b, n, e, want, wantE)
			}
		}
	}
}

// P1.1: ordinary numbers, and the first ones that are no numbers, written out.
func TestAddWrittenOut(t *testing.T) {
	for _, c := range []struct {
		a, b, n int64
		e       api.Errno
	}{
		{0, 0, 0, api.OK},
		{2, 3, 5, api.OK},
		{2, -3, -1, api.OK},
		{top, 0, top, api.OK},
		{top - 1, 1, top, api.OK},
		{top, 1, 0, api.ErrOver},
		{1, top, 0, api.ErrOver},
		{top, top, 0, api.ErrOver},
		{bottom, 0, bottom, api.OK},
		{bottom + 1, -1, bottom, api.OK},
		{bottom, -1, 0, api.ErrOver},
		{-1, bottom, 0, api.ErrOver},
		{bottom, bottom, 0, api.ErrOver},
		{bottom, top, -1, api.OK},
	} {
		if n, e := Add(c.a, c.b); n != c.n || e != c.e {
			t.Errorf("Add(%d, %d): %d, %d; want %d, %d", c.a, c.b, n, e, c.n, c.e)
		}
	}
}

// P1.1: the same of Mul; the document's example is among these.
func TestMulWrittenOut(t *testing.T) {
	for _, c := range []struct {
		a, b, n int64
		e       api.Errno
	}{
		{0, 0, 0, api.OK},
		{6, 7, 42, api.OK},
		{-6, 7, -42, api.OK},
		{6, -7, -42, api.OK},
		{-6, -7, 42, api.OK},
		{0, bottom, 0, api.OK},
		{-1, 0, 0, api.OK},
		{top, -1, -top, api.OK},
		{bottom, 1, bottom, api.OK},
		{bottom, -1, 0, api.ErrOver},
		{-1, bottom, 0, api.ErrOver},
		{bottom, bottom, 0, api.ErrOver},
		{1 << 32, 1 << 31, 0, api.ErrOver},
		{-1 << 32, -1 << 31, 0, api.ErrOver},
		{1 << 32, -1 << 31, bottom, api.OK},
		{-1 << 32, 1 << 31, bottom, api.OK},
		{1 << 32, 1 << 32, 0, api.ErrOver},
		{-1 << 32, 1 << 32, 0, api.ErrOver},
		{top, 2, 0, api.ErrOver},
		{bottom, 2, 0, api.ErrOver},
	} {
		if n, e := Mul(c.a, c.b); n != c.n || e != c.e {
			t.Errorf("Mul(%d, %d): %d, %d; want %d, %d", c.a, c.b, n, e, c.n, c.e)
		}
	}
}

// P1.1: Dot, with lists that are not as long as each other, and sums that are no numbers on their way alone.
func TestDot(t *testing.T) {
	for _, c := range []struct {
		a, b []int64
		n    int64
		e    api.Errno
	}{
		{nil, nil, 0, api.OK},
		{nil, []int64{}, 0, api.OK},
		{[]int64{}, nil, 0, api.OK},
		{[]int64{5}, []int64{-8}, -40, api.OK},
		{[]int64{2, 3}, []int64{4, -5}, -7, api.OK},
		{[]int64{1, 2, 3}, []int64{10, 100, 1000}, 3210, api.OK},
		{[]int64{2}, nil, 0, api.ErrArg},
		{nil, []int64{2}, 0, api.ErrArg},
		{[]int64{2}, []int64{4, -5}, 0, api.ErrArg},
		{[]int64{2, 3, 1}, []int64{4, -5}, 0, api.ErrArg},
		// ErrArg is named ahead of ErrOver.
		{[]int64{top, 1}, []int64{2}, 0, api.ErrArg},
		{[]int64{top}, []int64{2, 1}, 0, api.ErrArg},
		// A product that is none, first or last.
		{[]int64{top, 0}, []int64{2, 1}, 0, api.ErrOver},
		{[]int64{1, bottom}, []int64{1, -1}, 0, api.ErrOver},
		// The whole sum would be a number, but one on the way isn't.
		{[]int64{top, 1, -1}, []int64{1, 1, 1}, 0, api.ErrOver},
		{[]int64{bottom, -1, 1}, []int64{1, 1, 1}, 0, api.ErrOver},
		{[]int64{top, top}, []int64{2, -2}, 0, api.ErrOver},
		// In another order all on the way are numbers.
		{[]int64{top, -1, 1}, []int64{1, 1, 1}, top, api.OK},
		{[]int64{bottom, 1, -1}, []int64{1, 1, 1}, bottom, api.OK},
		{[]int64{-1 << 32, 1}, []int64{1 << 31, top}, -1, api.OK},
	} {
		if n, e := Dot(c.a, c.b); n != c.n || e != c.e {
			t.Errorf("Dot(%d, %d): %d, %d; want %d, %d", c.a, c.b, n, e, c.n, c.e)
		}
	}
}

// P1.1: Dot of all pairs of edges is what Mul and Add tell, one step behind the other.
func TestDotGoesStepByStep(t *testing.T) {
	few := []int64{bottom, bottom + 1, -1 << 32, -1 << 31, -2, -1, 0, 1, 2, 1 << 31, 1 << 32, top - 1, top}
	for _, a := range few {
		for _, b := range few {
			for _, c := range few {
				for _, d := range few {
					first, wantE := narrow(new(big.Int).Mul(big.NewInt(a), big.NewInt(b)))
					var want int64
					if wantE == api.OK {
						var second int64
						if second, wantE = narrow(new(big.Int).Mul(big.NewInt(c), big.NewInt(d))); wantE == api.OK {
							want, wantE = narrow(new(big.Int).Add(big.NewInt(first), big.NewInt(second)))
						}
					}
					if n, e := Dot([]int64{a, c}, []int64{b, d}); n != want || e != wantE {
						t.Fatalf("Dot of %d %d, %d %d: %d, %d; want %d, %d", a, c, b, d, n, e, want, wantE)
					}
				}
			}
		}
	}
}

// R3: Dot leaves its lists as they were, whether it answers a number or an error.
func TestDotLeavesItsLists(t *testing.T) {
	for _, l := range [][]int64{{2, 3, 5}, {top, 2, 1}, {1, 2}} {
		a, b := slices.Clone(l), []int64{7, 11, 13}
		Dot(a, b)
		if !slices.Equal(a, l) || !slices.Equal(b, []int64{7, 11, 13}) {
			t.Errorf("Dot changed its lists: %d, %d", a, b)
		}
	}
}

// P1.2: each rel, of numbers below, at and above another one.
func TestHolds(t *testing.T) {
	for _, c := range []struct {
		name             string
		rel              int
		less, same, more bool
	}{
		{"EQ", api.EQ, false, true, false},
		{"NE", api.NE, true, false, true},
		{"LT", api.LT, true, false, false},
		{"LE", api.LE, true, true, false},
		{"GT", api.GT, false, false, true},
		{"GE", api.GE, false, true, true},
	} {
		l := edges()
		for i, a := range l {
			for k, b := range l {
				want := c.same
				if i < k {
					want = c.less
				} else if i > k {
					want = c.more
				}
				if Holds(a, c.rel, b) != want {
					t.Errorf("Holds(%d, %s, %d): not %t", a, c.name, b, want)
				}
			}
		}
	}
}

// P1.2: of another rel nothing holds.
func TestHoldsOfAnotherRel(t *testing.T) {
	for _, rel := range []int{-1, 6, 7, -6, 256, math.MaxInt, math.MinInt} {
		for _, a := range []int64{bottom, -1, 0, 1, top} {
			for _, b := range []int64{bottom, -1, 0, 1, top} {
				if Holds(a, rel, b) {
					t.Errorf("Holds(%d, %d, %d)", a, rel, b)
				}
			}
		}
	}
}

// P1.3: sums and products turn about.
func TestTurnsAbout(t *testing.T) {
	for _, a := range edges() {
		for _, b := range edges() {
			n, e := Add(a, b)
			if m, f := Add(b, a); n != m || e != f {
				t.Errorf("Add of %d, %d: %d, %d; turned about: %d, %d", a, b, n, e, m, f)
			}
			n, e = Mul(a, b)
			if m, f := Mul(b, a); n != m || e != f {
				t.Errorf("Mul of %d, %d: %d, %d; turned about: %d, %d", a, b, n, e, m, f)
			}
			n, e = Dot([]int64{a, b}, []int64{b, 1})
			if m, f := Dot([]int64{b, 1}, []int64{a, b}); n != m || e != f {
				t.Errorf("Dot of %d %d, %d 1: %d, %d; turned about: %d, %d", a, b, b, n, e, m, f)
			}
		}
	}
}

// P1.3: a product of a sum is the sum of the products, where all are numbers.
func TestProductOfSum(t *testing.T) {
	asked := 0
	for _, a := range edges() {
		for _, b := range edges() {
			for _, c := range []int64{bottom, -1 << 31, -3, -2, -1, 0, 1, 2, 3, 1 << 20, 1 << 31, top} {
				sum, e1 := Add(a, b)
				whole, e2 := Mul(sum, c)
				first, e3 := Mul(a, c)
				second, e4 := Mul(b, c)
				parts, e5 := Add(first, second)
				if e1 != api.OK || e2 != api.OK || e3 != api.OK || e4 != api.OK || e5 != api.OK {
					continue
				}
				asked++
				if whole != parts {
					t.Errorf("(%d + %d) * %d: %d, and by parts %d", a, b, c, whole, parts)
				}
				if n, e := Dot([]int64{a, b}, []int64{c, c}); n != whole || e != api.OK {
					t.Errorf("Dot of %d %d, %d %d: %d, %d; want %d", a, b, c, c, n, e, whole)
				}
			}
		}
	}
	if asked < 1000 {
		t.Errorf("only %d were all numbers", asked)
	}
}

// P1.3: of two rels that are each other's contrary just one holds.
func TestContraryRels(t *testing.T) {
	for _, a := range edges() {
		for _, b := range edges() {
			for _, c := range [][2]int{{api.EQ, api.NE}, {api.LT, api.GE}, {api.LE, api.GT}} {
				if Holds(a, c[0], b) == Holds(a, c[1], b) {
					t.Errorf("of %d and %d the rels %d and %d are alike", a, b, c[0], c[1])
				}
			}
		}
	}
}
