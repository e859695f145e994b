package dom

import (
	"math"
	"slices"
	"testing"

	"stratagem/api"
)

const (
	top    = api.MostNum
	bottom = -api.MostNum
	full   = ^uint64(0)
)

type list = []api.Span

// lay tells the list of spans, right or not, of which each one's Low and High are told, one behind the other.
func lay(ends ...int) list {
	var l list
	for i := 0; i+1 < len(ends); i += 2 {
		l = append(l, api.Span{Low: ends[i], High: ends[i+1]})
	}
	return l
}

// rise tells so many numbers from one on, each one more than the one ahead by a step.
func rise(from, step, n int) []int {
	l := make([]int, 0, n)
	for i := range n {
		l = append(l, from+i*step)
	}
	return l
}

// singles tells the spans of one number each.
func singles(numbers []int) list {
	var l list
	for _, v := range numbers {
		l = append(l, api.Span{Low: v, High: v})
	}
	return l
}

// runs tells the right list of numbers that rise, by the chapter's words alone.
func runs(rising []int) list {
	var l list
	for i := 0; i < len(rising); {
		k := i
		for k+1 < len(rising) && rising[k+1] == rising[k]+1 {
			k++
		}
		l = append(l, api.Span{Low: rising[i], High: rising[k]})
		i = k + 1
	}
	return l
}

// left tells the values of a domain whose places are in its set, by the chapter's words alone.
func left(d Dom) []int {
	var l []int
	for k, v := range d.Vals {
		if d.Live>>k&1 == 1 {
			l = append(l, v)
		}
	}
	return l
}

// chosen tells the domain of which those values stay left that are wanted, by the chapter's words alone.
func chosen(d Dom, want func(v int) bool) Dom {
	kept := Dom{Vals: slices.Clone(d.Vals)}
	for k, v := range d.Vals {
		if d.Live>>k&1 == 1 && want(v) {
			kept.Live |= 1 << k
		}
	}
	return kept
}

// shapes are Vals that a domain may have: none, one, with gaps and without, at both ends, and just MostVals of them.
func shapes() [][]int {
	return [][]int{
		nil,
		{},
		{0},
		{bottom},
		{top},
		{bottom, top},
		{1, 2, 3, 7, 8, 9},
		{-5, -3, -2, 0, 4, 5, 11},
		{bottom, bottom + 1, bottom + 3, 0, top - 3, top - 1, top},
		rise(-20, 1, api.MostVals-1),
		rise(-31, 1, api.MostVals),
		rise(bottom, 1, api.MostVals),
		rise(top-api.MostVals+1, 1, api.MostVals),
		rise(-7, 3, api.MostVals),
		rise(bottom, 2*api.MostNum/(api.MostVals-1), api.MostVals),
	}
}

// sets are sets of the first n places: no place, all, the first or the last one alone, all but these, and some;
// of few places all sets there are.
func sets(n int) []uint64 {
	var all uint64
	for k := range n {
		all |= 1 << k
	}
	var l []uint64
	if n <= 7 {
		for b := range all + 1 {
			l = append(l, b)
		}
		return l
	}
	last := uint64(1) << (n - 1)
	for _, b := range []uint64{0, full, 1, last, ^uint64(1), ^last, 1 | last, 2, last >> 1, 0x5555555555555555, 0xaaaaaaaaaaaaaaaa, 0x00ff00ff0ff01234, 0xf00f000000000001} {
		l = append(l, b&all)
	}
	return l
}

// mays are domains that may be: all shapes with all sets of their places.
func mays() []Dom {
	var l []Dom
	for _, vals := range shapes() {
		for _, b := range sets(len(vals)) {
			l = append(l, Dom{Vals: slices.Clone(vals), Live: b})
		}
	}
	return l
}

// mayNots are domains that may not be, each for one reason, at each place; of some nothing is left.
func mayNots() []Dom {
	swapped := rise(0, 1, api.MostVals)
	swapped[62], swapped[63] = swapped[63], swapped[62]
	last := rise(0, 1, api.MostVals)
	last[63] = last[62]
	return []Dom{
		// They fall.
		{[]int{2, 1}, 3},
		{[]int{2, 1}, 1},
		{[]int{2, 1}, 0},
		{[]int{2, 1, 3}, 7},
		{[]int{1, 3, 2}, 7},
		{[]int{3, 2, 1}, 4},
		{[]int{top, bottom}, 3},
		{swapped, full},
		// One is twice.
		{[]int{1, 1}, 3},
		{[]int{1, 1}, 0},
		{[]int{0, 0}, 1},
		{[]int{1, 2, 2}, 1},
		{[]int{1, 1, 2}, 4},
		{[]int{bottom, bottom}, 3},
		{[]int{top, top}, 2},
		{last, full},
		// One is beyond MostNum.
		{[]int{bottom - 1}, 1},
		{[]int{bottom - 1}, 0},
		{[]int{bottom - 1, 0, 1}, 6},
		{[]int{top + 1}, 1},
		{[]int{top + 1}, 0},
		{[]int{0, 1, top + 1}, 3},
		{[]int{bottom - 1, top + 1}, 3},
		{[]int{math.MinInt, math.MaxInt}, 3},
		{[]int{math.MinInt}, 1},
		{[]int{math.MaxInt}, 1},
		{[]int{math.MaxInt, math.MinInt}, 3},
		{[]int{0, math.MaxInt, 5}, 7},
		{[]int{0, math.MaxInt, math.MinInt}, 7},
		// There are more than MostVals.
		{rise(0, 1, api.MostVals+1), full},
		{rise(0, 1, api.MostVals+1), 1},
		{rise(0, 1, api.MostVals+1), 0},
		{rise(bottom, 3, 1000), 6},
		// A place is behind the last one.
		{nil, 1},
		{[]int{}, 1},
		{nil, 1 << 63},
		{nil, full},
		{[]int{5}, 2},
		{[]int{5}, 3},
		{[]int{5}, 1 << 63},
		{[]int{1, 2, 3}, 8},
		{[]int{1, 2, 3}, 15},
		{[]int{1, 2, 3}, 1<<40 | 1},
		{[]int{1, 2, 3}, full},
		{rise(0, 1, api.MostVals-1), full},
		{rise(0, 1, api.MostVals-1), 1 << 63},
	}
}

// numbers are those about a domain's values, about what a value may be, and at the ends of int.
func numbers(vals []int) []int {
	l := []int{math.MinInt, math.MinInt + 1, math.MaxInt - 1, math.MaxInt, 1 << 32, -1 << 32, bottom - 1, bottom, bottom + 1, -1, 0, 1, top - 1, top, top + 1}
	for _, v := range vals {
		for d := -1; d <= 1; d++ {
			// Beyond the ends of int there is nothing.
			if d < 0 && v == math.MinInt || d > 0 && v == math.MaxInt {
				continue
			}
			l = append(l, v+d)
		}
	}
	slices.Sort(l)
	return slices.Compact(l)
}

// alike tells whether domains have the same Vals and the same Live, without the package's own Same.
func alike(a, b Dom) bool {
	return slices.Equal(a.Vals, b.Vals) && a.Live == b.Live
}

// P4.1: New of lists with from one number to just MostVals, all left.
func TestNew(t *testing.T) {
	spread := rise(bottom, 2*api.MostNum/(api.MostVals-1), api.MostVals)
	for _, c := range []struct {
		l    list
		vals []int
		live uint64
	}{
		{lay(5, 5), []int{5}, 1},
		{lay(0, 0), []int{0}, 1},
		{lay(bottom, bottom), []int{bottom}, 1},
		{lay(top, top), []int{top}, 1},
		{lay(bottom, bottom, top, top), []int{bottom, top}, 3},
		{lay(-1, 1), []int{-1, 0, 1}, 7},
		{lay(1, 3, 7, 9), []int{1, 2, 3, 7, 8, 9}, 63},
		{lay(1, 1, 3, 3, 5, 6), []int{1, 3, 5, 6}, 15},
		{lay(0, 62), rise(0, 1, 63), full >> 1},
		{lay(0, 63), rise(0, 1, 64), full},
		{lay(bottom, bottom+63), rise(bottom, 1, 64), full},
		{lay(top-63, top), rise(top-63, 1, 64), full},
		{lay(bottom, bottom+31, top-31, top), append(rise(bottom, 1, 32), rise(top-31, 1, 32)...), full},
		{singles(rise(-64, 2, 64)), rise(-64, 2, 64), full},
		{singles(spread), spread, full},
	} {
		d, e := New(c.l)
		if !alike(d, Dom{c.vals, c.live}) || e != api.OK {
			t.Errorf("New(%v): %v, %d; want %d, %b", c.l, d, e, c.vals, c.live)
		}
		if !May(d) {
			t.Errorf("New(%v): %v, which may not be", c.l, d)
		}
	}
}

// P4.1: ErrArg of lists that aren't right, or have no numbers, ahead of ErrBig; and the zero domain beside.
func TestNewOfWrongLists(t *testing.T) {
	for _, l := range []list{
		nil,
		{},
		lay(3, 1),
		lay(1, 0),
		lay(1, 3, 4, 5),
		lay(1, 3, 3, 5),
		lay(1, 3, 1, 3),
		lay(5, 6, 1, 2),
		lay(1, 2, 9, 7),
		lay(bottom-1, bottom-1),
		lay(bottom-1, bottom+1),
		lay(top+1, top+1),
		lay(1, 1, top, top+1),
		lay(math.MinInt, math.MaxInt),
		lay(math.MaxInt, math.MinInt),
		// These have too many, too, but what isn't right is told.
		lay(0, 64, 65, 65),
		lay(1000, 2000, 1, 2),
		lay(bottom-1, top),
		lay(bottom, top+1),
		lay(0, 99, 7, 3),
	} {
		if d, e := New(l); d.Vals != nil || d.Live != 0 || e != api.ErrArg {
			t.Errorf("New(%v): %v, %d; want ErrArg", l, d, e)
		}
	}
}

// P4.1: ErrBig of lists with more than MostVals numbers, and the zero domain beside.
func TestNewOfTooManyNumbers(t *testing.T) {
	for _, l := range []list{
		lay(0, 64),
		lay(bottom, bottom+64),
		lay(top-64, top),
		lay(0, 62, 64, 65),
		lay(0, 0, 2, 65),
		singles(rise(0, 2, 65)),
		singles(rise(bottom, 5, 1000)),
		lay(bottom, -1, 1, top),
		lay(bottom, top),
	} {
		if d, e := New(l); d.Vals != nil || d.Live != 0 || e != api.ErrBig {
			t.Errorf("New(%v): %v, %d; want ErrBig", l, d, e)
		}
	}
}

// P4.1: domains that may be, and domains that may not.
func TestMay(t *testing.T) {
	for _, d := range mays() {
		if !May(d) {
			t.Errorf("May(%v): false", d)
		}
	}
	for _, d := range mayNots() {
		if May(d) {
			t.Errorf("May(%v): true", d)
		}
	}
}

// P4.1: May of all pairs and triples of some numbers, with all sets of a place more.
func TestMayOfFewNumbers(t *testing.T) {
	few := []int{math.MinInt, bottom - 1, bottom, -1, 0, 1, top, top + 1, math.MaxInt}
	fits := func(v int) bool { return v >= bottom && v <= top }
	for _, a := range few {
		for _, b := range few {
			for live := range uint64(16) {
				two := fits(a) && fits(b) && a < b
				if May(Dom{[]int{a, b}, live}) != (two && live < 4) {
					t.Errorf("May of %d %d, %b: not %t", a, b, live, two && live < 4)
				}
				for _, c := range few {
					three := two && fits(c) && b < c
					if May(Dom{[]int{a, b, c}, live}) != (three && live < 8) {
						t.Errorf("May of %d %d %d, %b: not %t", a, b, c, live, three && live < 8)
					}
				}
			}
		}
	}
}

// P4.1: just the places up to the last one may be in the set, however many values there are.
func TestMayAtEachLength(t *testing.T) {
	for n := range api.MostVals + 3 {
		vals := rise(-5, 2, n)
		for k := range api.MostVals {
			if want := k < n && n <= api.MostVals; May(Dom{vals, 1 << k}) != want {
				t.Errorf("May of %d values and place %d: not %t", n, k, want)
			}
		}
		if want := n <= api.MostVals; May(Dom{vals, 0}) != want {
			t.Errorf("May of %d values and no place: not %t", n, want)
		}
	}
}

// P4.2: Size, Least, Greatest, Single, List and Spans, written out.
func TestWrittenOut(t *testing.T) {
	many := rise(0, 1, 64)
	for _, c := range []struct {
		d               Dom
		size            int
		least, greatest int
		single          bool
		list            []int
		spans           list
	}{
		{Dom{}, 0, 0, 0, false, nil, nil},
		{Dom{[]int{}, 0}, 0, 0, 0, false, nil, nil},
		{Dom{[]int{5}, 0}, 0, 0, 0, false, nil, nil},
		{Dom{[]int{5}, 1}, 1, 5, 5, true, []int{5}, lay(5, 5)},
		{Dom{[]int{0}, 1}, 1, 0, 0, true, []int{0}, lay(0, 0)},
		{Dom{[]int{bottom, top}, 3}, 2, bottom, top, false, []int{bottom, top}, lay(bottom, bottom, top, top)},
		{Dom{[]int{bottom, top}, 1}, 1, bottom, bottom, true, []int{bottom}, lay(bottom, bottom)},
		{Dom{[]int{bottom, top}, 2}, 1, top, top, true, []int{top}, lay(top, top)},
		{Dom{[]int{1, 2, 3, 7, 8, 9}, 63}, 6, 1, 9, false, []int{1, 2, 3, 7, 8, 9}, lay(1, 3, 7, 9)},
		{Dom{[]int{1, 2, 3, 7, 8, 9}, 0b011101}, 4, 1, 8, false, []int{1, 3, 7, 8}, lay(1, 1, 3, 3, 7, 8)},
		{Dom{[]int{1, 2, 3, 7, 8, 9}, 0b100000}, 1, 9, 9, true, []int{9}, lay(9, 9)},
		{Dom{[]int{1, 2, 3, 7, 8, 9}, 0}, 0, 0, 0, false, nil, nil},
		{Dom{[]int{1, 3}, 3}, 2, 1, 3, false, []int{1, 3}, lay(1, 1, 3, 3)},
		{Dom{many, full}, 64, 0, 63, false, many, lay(0, 63)},
		{Dom{many, 1 << 63}, 1, 63, 63, true, []int{63}, lay(63, 63)},
		{Dom{many, full >> 1}, 63, 0, 62, false, many[:63], lay(0, 62)},
		{Dom{many, full - 1}, 63, 1, 63, false, many[1:], lay(1, 63)},
		{Dom{many, 0}, 0, 0, 0, false, nil, nil},
	} {
		if n := Size(c.d); n != c.size {
			t.Errorf("Size(%v): %d; want %d", c.d, n, c.size)
		}
		if v, is := Least(c.d); v != c.least || is != (c.size > 0) {
			t.Errorf("Least(%v): %d, %t; want %d", c.d, v, is, c.least)
		}
		if v, is := Greatest(c.d); v != c.greatest || is != (c.size > 0) {
			t.Errorf("Greatest(%v): %d, %t; want %d", c.d, v, is, c.greatest)
		}
		want := 0
		if c.single {
			want = c.least
		}
		if v, is := Single(c.d); v != want || is != c.single {
			t.Errorf("Single(%v): %d, %t; want %d, %t", c.d, v, is, want, c.single)
		}
		if l := List(c.d); !slices.Equal(l, c.list) {
			t.Errorf("List(%v): %d; want %d", c.d, l, c.list)
		}
		if l := Spans(c.d); !slices.Equal(l, c.spans) {
			t.Errorf("Spans(%v): %v; want %v", c.d, l, c.spans)
		}
	}
}

// P4.2: Has, Only and Less of a value that is left, one that no longer is, and numbers that are none, written out.
func TestOneValueWrittenOut(t *testing.T) {
	vals := []int{bottom, 1, 2, 7, top}
	d := Dom{vals, 0b11011}
	for _, c := range []struct {
		v          int
		has        bool
		only, less uint64
	}{
		{math.MinInt, false, 0, 0b11011},
		{bottom - 1, false, 0, 0b11011},
		{bottom, true, 0b00001, 0b11010},
		{0, false, 0, 0b11011},
		{1, true, 0b00010, 0b11001},
		{2, false, 0, 0b11011},
		{3, false, 0, 0b11011},
		{7, true, 0b01000, 0b10011},
		{top, true, 0b10000, 0b01011},
		{top + 1, false, 0, 0b11011},
		{math.MaxInt, false, 0, 0b11011},
	} {
		if Has(d, c.v) != c.has {
			t.Errorf("Has(%v, %d): not %t", d, c.v, c.has)
		}
		if k := Only(d, c.v); !alike(k, Dom{vals, c.only}) {
			t.Errorf("Only(%v, %d): %v; want %b", d, c.v, k, c.only)
		}
		if k := Less(d, c.v); !alike(k, Dom{vals, c.less}) {
			t.Errorf("Less(%v, %d): %v; want %b", d, c.v, k, c.less)
		}
	}
}

// P4.2: Between, written out; the chapter's example is among these.
func TestBetweenWrittenOut(t *testing.T) {
	d, e := New(lay(1, 3, 7, 9))
	if e != api.OK {
		t.Fatalf("New: %d", e)
	}
	for _, c := range []struct {
		low, high int
		list      []int
	}{
		{2, 8, []int{2, 3, 7, 8}},
		{1, 9, []int{1, 2, 3, 7, 8, 9}},
		{0, 10, []int{1, 2, 3, 7, 8, 9}},
		{bottom, top, []int{1, 2, 3, 7, 8, 9}},
		{math.MinInt, math.MaxInt, []int{1, 2, 3, 7, 8, 9}},
		{math.MinInt, 0, nil},
		{math.MinInt, 1, []int{1}},
		{9, math.MaxInt, []int{9}},
		{10, math.MaxInt, nil},
		{4, 6, nil},
		{3, 7, []int{3, 7}},
		{4, 7, []int{7}},
		{3, 6, []int{3}},
		{2, 2, []int{2}},
		{5, 5, nil},
		{8, 2, nil},
		{3, 2, nil},
		{9, 1, nil},
		{7, 3, nil},
		{6, 4, nil},
		{math.MaxInt, math.MinInt, nil},
		{math.MaxInt, math.MaxInt, nil},
		{math.MinInt, math.MinInt, nil},
	} {
		k := Between(d, c.low, c.high)
		if !slices.Equal(left(k), c.list) || !slices.Equal(k.Vals, d.Vals) || !May(k) {
			t.Errorf("Between(%v, %d, %d): %v; want %d", d, c.low, c.high, k, c.list)
		}
	}
}

// P4.2: what is left, of all domains that may be.
func TestWhatIsLeft(t *testing.T) {
	for _, d := range mays() {
		want := left(d)
		n := len(want)
		if Size(d) != n || !slices.Equal(List(d), want) || !slices.Equal(Spans(d), runs(want)) {
			t.Errorf("%v: %d, %d, %v; want %d", d, Size(d), List(d), Spans(d), want)
		}
		least, greatest, single := 0, 0, 0
		if n > 0 {
			least, greatest = want[0], want[n-1]
		}
		if n == 1 {
			single = want[0]
		}
		if v, is := Least(d); v != least || is != (n > 0) {
			t.Errorf("Least(%v): %d, %t", d, v, is)
		}
		if v, is := Greatest(d); v != greatest || is != (n > 0) {
			t.Errorf("Greatest(%v): %d, %t", d, v, is)
		}
		if v, is := Single(d); v != single || is != (n == 1) {
			t.Errorf("Single(%v): %d, %t", d, v, is)
		}
	}
}

// P4.2: Has, Only and Less, of all domains that may be and of all numbers about their values.
func TestOneValue(t *testing.T) {
	for _, d := range mays() {
		for _, v := range numbers(d.Vals) {
			if Has(d, v) != slices.Contains(left(d), v) {
				t.Errorf("Has(%v, %d): %t", d, v, Has(d, v))
			}
			if k := Only(d, v); !alike(k, chosen(d, func(x int) bool { return x == v })) {
				t.Errorf("Only(%v, %d): %v", d, v, k)
			}
			if k := Less(d, v); !alike(k, chosen(d, func(x int) bool { return x != v })) {
				t.Errorf("Less(%v, %d): %v", d, v, k)
			}
		}
	}
}

// P4.2: Between, of all shapes, and of all pairs of numbers about their values, low above high among them.
func TestBetween(t *testing.T) {
	for _, vals := range shapes() {
		l := sets(len(vals))
		for i, low := range numbers(vals) {
			for k, high := range numbers(vals) {
				d := Dom{vals, l[(3*i+k)%len(l)]}
				if b := Between(d, low, high); !alike(b, chosen(d, func(x int) bool { return x >= low && x <= high })) {
					t.Fatalf("Between(%v, %d, %d): %v", d, low, high, b)
				}
			}
		}
	}
}

// P4.2: of a domain that may not be: 0, false, none, and the zero domain.
func TestOfDomainsThatMayNotBe(t *testing.T) {
	for _, d := range mayNots() {
		if n := Size(d); n != 0 {
			t.Errorf("Size(%v): %d", d, n)
		}
		for name, call := range map[string]func(Dom) (int, bool){"Least": Least, "Greatest": Greatest, "Single": Single} {
			if v, is := call(d); v != 0 || is {
				t.Errorf("%s(%v): %d, %t", name, d, v, is)
			}
		}
		if l := List(d); len(l) != 0 {
			t.Errorf("List(%v): %d", d, l)
		}
		if l := Spans(d); len(l) != 0 {
			t.Errorf("Spans(%v): %v", d, l)
		}
		for _, v := range numbers(d.Vals[:min(len(d.Vals), 70)]) {
			if Has(d, v) {
				t.Errorf("Has(%v, %d): true", d, v)
			}
			for name, k := range map[string]Dom{
				"Only":               Only(d, v),
				"Less":               Less(d, v),
				"Between itself":     Between(d, v, v),
				"Between the ends":   Between(d, math.MinInt, math.MaxInt),
				"Between and behind": Between(d, v, math.MaxInt),
			} {
				if k.Vals != nil || k.Live != 0 {
					t.Errorf("%s of %v, %d: %v", name, d, v, k)
				}
			}
		}
	}
}

// P4.2: Same of any two, which may be or not, is whether their Vals and their Live are.
func TestSame(t *testing.T) {
	all := append(mays(), mayNots()...)
	for _, a := range all {
		for _, b := range all {
			if Same(a, b) != alike(a, b) {
				t.Errorf("Same(%v, %v): %t", a, b, Same(a, b))
			}
		}
		if !Same(a, Dom{slices.Clone(a.Vals), a.Live}) {
			t.Errorf("%v isn't the same as what is told alike", a)
		}
	}
	for _, c := range []struct {
		a, b Dom
		same bool
	}{
		{Dom{}, Dom{}, true},
		{Dom{nil, 0}, Dom{[]int{}, 0}, true},
		{Dom{nil, 5}, Dom{[]int{}, 5}, true},
		{Dom{nil, 0}, Dom{nil, 1}, false},
		{Dom{[]int{1, 2}, 3}, Dom{[]int{1, 2}, 3}, true},
		{Dom{[]int{1, 2}, 3}, Dom{[]int{1, 2}, 1}, false},
		{Dom{[]int{1, 2}, 1}, Dom{[]int{1, 3}, 1}, false},
		{Dom{[]int{1, 2}, 1}, Dom{[]int{1}, 1}, false},
		{Dom{[]int{1}, 1}, Dom{[]int{1, 2}, 1}, false},
		{Dom{[]int{2, 1}, 3}, Dom{[]int{2, 1}, 3}, true},
		{Dom{[]int{2, 1}, 3}, Dom{[]int{1, 2}, 3}, false},
		{Dom{[]int{1, 1}, 3}, Dom{[]int{1}, 3}, false},
		{Dom{[]int{5}, 1 << 63}, Dom{[]int{5}, 1 << 63}, true},
		{Dom{[]int{5}, 1 << 63}, Dom{[]int{5}, 0}, false},
		{Dom{rise(0, 1, 65), full}, Dom{rise(0, 1, 65), full}, true},
		{Dom{rise(0, 1, 65), full}, Dom{rise(0, 1, 64), full}, false},
		// The same is left of both, but they have had other values.
		{Dom{[]int{1, 2}, 2}, Dom{[]int{2, 3}, 1}, false},
	} {
		if Same(c.a, c.b) != c.same || Same(c.b, c.a) != c.same {
			t.Errorf("Same(%v, %v): not %t", c.a, c.b, c.same)
		}
	}
}

// within tells whether a domain is another one with no more left, and may be.
func within(d, of Dom) bool {
	return May(d) && slices.Equal(d.Vals, of.Vals) && d.Live&^of.Live == 0
}

// P4.3: domains never get more, one call behind the other, whichever is last.
func TestNeverMore(t *testing.T) {
	for _, d := range mays() {
		l := numbers(d.Vals)
		for i, v := range l {
			w := l[(i*7+3)%len(l)]
			for _, once := range []Dom{Only(d, v), Less(d, v), Between(d, v, w), Between(d, w, v)} {
				if !within(once, d) {
					t.Fatalf("of %v by %d, %d: %v", d, v, w, once)
				}
				for _, twice := range []Dom{Only(once, w), Less(once, w), Between(once, w, v), Between(once, v, w)} {
					if !within(twice, once) {
						t.Fatalf("of %v by %d, %d: %v", once, v, w, twice)
					}
				}
			}
		}
	}
}

// P4.3: what is left is told by each the same.
func TestToldTheSame(t *testing.T) {
	for _, d := range mays() {
		l := List(d)
		n := Size(d)
		if len(l) != n || !slices.IsSorted(l) || len(slices.Compact(slices.Clone(l))) != n {
			t.Errorf("Size(%v): %d, and List %d", d, n, l)
		}
		least, hasLeast := Least(d)
		greatest, hasGreatest := Greatest(d)
		if hasLeast != (n > 0) || hasGreatest != (n > 0) || n > 0 && (least != l[0] || greatest != l[n-1]) {
			t.Errorf("%v: %d, %d of List %d", d, least, greatest, l)
		}
		if v, is := Single(d); is != (n == 1) || is && (v != least || v != greatest) {
			t.Errorf("Single(%v): %d, %t of List %d", d, v, is, l)
		}
		for _, v := range numbers(d.Vals) {
			if Has(d, v) != slices.Contains(l, v) {
				t.Errorf("Has(%v, %d): %t, of List %d", d, v, Has(d, v), l)
			}
		}
		again, e := New(Spans(d))
		if n == 0 && e != api.ErrArg || n > 0 && (e != api.OK || !slices.Equal(again.Vals, l) || Size(again) != n) {
			t.Errorf("New(Spans(%v)): %v, %d", d, again, e)
		}
	}
}

// P4.3: Only, Less and Between tell the same by each other, and again.
func TestByEachOther(t *testing.T) {
	for _, d := range mays() {
		if !Same(Between(d, bottom, top), d) {
			t.Errorf("%v between the ends: %v", d, Between(d, bottom, top))
		}
		for _, v := range numbers(d.Vals) {
			only, less := Only(d, v), Less(d, v)
			if only.Live&less.Live != 0 || only.Live|less.Live != d.Live || Size(only)+Size(less) != Size(d) {
				t.Errorf("%v by %d: %v and %v", d, v, only, less)
			}
			if x, is := Single(only); is != Has(d, v) || is && x != v || Has(less, v) {
				t.Errorf("%v by %d: %v, of which single is %d, %t, and %v", d, v, only, x, is, less)
			}
			if !Same(only, Between(d, v, v)) || !Same(Only(only, v), only) || !Same(Less(less, v), less) {
				t.Errorf("%v by %d, again: %v, %v", d, v, only, less)
			}
			if v == math.MinInt || v == math.MaxInt {
				continue
			}
			below, above := Between(d, math.MinInt, v-1), Between(d, v+1, math.MaxInt)
			if below.Live&above.Live != 0 || below.Live|above.Live != less.Live {
				t.Errorf("%v about %d: %v and %v", d, v, below, above)
			}
		}
	}
}

// P4.3: taken one by one, nothing is left in the end.
func TestTakenOneByOne(t *testing.T) {
	for _, d := range mays() {
		told := List(d)
		var taken []int
		for n := Size(d); n > 0; n-- {
			v, is := Least(d)
			if !is || Size(d) != n {
				t.Fatalf("%v: %d left, and the least %d, %t", d, Size(d), v, is)
			}
			taken = append(taken, v)
			d = Less(d, v)
		}
		if Size(d) != 0 || !slices.Equal(taken, told) {
			t.Errorf("%v: taken %d of %d", d, taken, told)
		}
	}
}

// R3: answers share nothing with what was handed in, nor with each other.
func TestAnswersAreNotShared(t *testing.T) {
	vals := []int{1, 2, 3, 7, 8, 9}
	d := Dom{slices.Clone(vals), 63}
	answers := []Dom{Only(d, 2), Only(d, 5), Less(d, 2), Less(d, 5), Between(d, 1, 9), Between(d, 9, 1), Between(d, math.MinInt, math.MaxInt)}
	for i, a := range answers {
		for k := range a.Vals {
			a.Vals[k] = -100 - i
		}
		// What is put behind an answer's end isn't put into another thing either.
		_ = append(a.Vals, -1)
	}
	if !alike(d, Dom{vals, 63}) {
		t.Errorf("an answer was changed, and with it the domain: %v", d)
	}
	for i, a := range answers {
		if !slices.Equal(a.Vals, []int{-100 - i, -100 - i, -100 - i, -100 - i, -100 - i, -100 - i}) {
			t.Errorf("an answer was changed, and with it another one: %v", answers)
		}
	}
	l := List(d)
	for k := range l {
		l[k] = -1
	}
	s := Spans(d)
	for k := range s {
		s[k] = api.Span{Low: -1, High: -1}
	}
	if !alike(d, Dom{vals, 63}) || !slices.Equal(List(d), vals) || !slices.Equal(Spans(d), lay(1, 3, 7, 9)) {
		t.Errorf("a list was changed, and with it the domain: %v", d)
	}
}

// R3: the spans that New is given and the domain that it answers share nothing.
func TestNewIsNotShared(t *testing.T) {
	l := lay(1, 3, 7, 9)
	a, _ := New(l)
	b, _ := New(l)
	for k := range a.Vals {
		a.Vals[k] = -1
	}
	if !slices.Equal(l, lay(1, 3, 7, 9)) || !alike(b, Dom{[]int{1, 2, 3, 7, 8, 9}, 63}) {
		t.Errorf("a domain was changed, and with it %v, %v", l, b)
	}
	l[0] = api.Span{Low: 5, High: 5}
	if !alike(b, Dom{[]int{1, 2, 3, 7, 8, 9}, 63}) {
		t.Errorf("the spans were changed, and with them %v", b)
	}
}

// R3: arguments stay as they were, those that may not be too, and so does what lies behind their ends.
func TestArgumentsStayAsTheyWere(t *testing.T) {
	given := lay(1, 3, 7, 9, 20, 30)
	New(given[:2])
	New(given)
	if !slices.Equal(given, lay(1, 3, 7, 9, 20, 30)) {
		t.Errorf("New changed its list: %v", given)
	}
	for _, kept := range append(mays(), mayNots()...) {
		whole := append(slices.Clone(kept.Vals), 77, 78)
		n := len(kept.Vals)
		d := Dom{whole[:n], kept.Live}
		for _, v := range []int{bottom, 0, 2, top, math.MaxInt} {
			Has(d, v)
			Only(d, v)
			Less(d, v)
			Between(d, v, 9)
			Between(d, 9, v)
		}
		May(d)
		Size(d)
		Least(d)
		Greatest(d)
		Single(d)
		List(d)
		Spans(d)
		Same(d, kept)
		Same(kept, d)
		if !alike(d, kept) || whole[n] != 77 || whole[n+1] != 78 {
			t.Errorf("%v was changed: %v, %d", kept, d, whole)
		}
	}
}
