package spans

import (
	"math"
	"slices"
	"testing"

	"stratagem/api"
)

const (
	top    = api.MostNum
	bottom = -api.MostNum
)

type list = []api.Span

// lay tells the list of spans, right or not, of which each one's Low and High are told, one behind the other.
func lay(ends ...int) list {
	var l list
	for i := 0; i+1 < len(ends); i += 2 {
		l = append(l, api.Span{Low: ends[i], High: ends[i+1]})
	}
	return l
}

// all is the list of all numbers that a right list may have.
func all() list { return lay(bottom, top) }

// wrongs are lists that aren't right: each for one reason, at each place, and at the ends of int.
func wrongs() []list {
	return []list{
		lay(1, 0),
		lay(top, bottom),
		lay(math.MaxInt, math.MinInt),
		lay(1, 3, 7, 6),
		lay(1, 3, 7, 5, 9, 9),
		lay(bottom-1, 0),
		lay(bottom-1, bottom-1),
		lay(bottom-5, bottom-3, 0, 1),
		lay(0, top+1),
		lay(top+1, top+1),
		lay(0, 1, top, top+1),
		lay(bottom-1, top+1),
		lay(math.MinInt, math.MaxInt),
		lay(math.MinInt, 0),
		lay(0, math.MaxInt),
		lay(0, math.MaxInt, 5, 6),
		lay(0, math.MaxInt-1, math.MinInt, 6),
		lay(math.MaxInt, math.MaxInt, 1, 2),
		lay(math.MinInt, math.MinInt, 1, 2),
		// Both are one and the same, overlap, or lie within each other.
		lay(1, 3, 1, 3),
		lay(5, 5, 5, 5),
		lay(1, 3, 3, 5),
		lay(1, 4, 2, 3),
		lay(2, 3, 1, 4),
		lay(0, top, top, top),
		// They touch.
		lay(1, 3, 4, 5),
		lay(1, 1, 2, 2),
		lay(bottom, -1, 0, top),
		lay(bottom, bottom, bottom+1, bottom+1),
		lay(top-1, top-1, top, top),
		lay(1, 2, 4, 5, 6, 7),
		// They stand in the wrong order.
		lay(7, 9, 1, 3),
		lay(top, top, bottom, bottom),
		lay(1, 2, 7, 9, 4, 5),
		lay(4, 5, 1, 2, 7, 9),
	}
}

// rights are right lists beside each other: none, the ends, and spans with just one number between them.
func rights() []list {
	return []list{
		nil,
		{},
		lay(0, 0),
		lay(-3, 5),
		lay(1, 3, 5, 5),
		lay(1, 3, 7, 9),
		lay(1, 1, 3, 3, 5, 5),
		lay(bottom, bottom),
		lay(top, top),
		lay(bottom, bottom, top, top),
		lay(bottom, bottom, bottom+2, bottom+2),
		lay(top-2, top-2, top, top),
		lay(bottom, -1, 1, top),
		lay(bottom, bottom+3, -1, 1, top-3, top),
		lay(bottom, top),
	}
}

// numbers are those about the ends of the lists above, of what a list may have, and of int.
func numbers() []int {
	l := []int{math.MinInt, math.MinInt + 1, math.MaxInt - 1, math.MaxInt, math.MinInt32, math.MaxInt32, 1 << 32, -1 << 32}
	for d := -12; d <= 12; d++ {
		l = append(l, d, bottom+d, top+d)
	}
	return l
}

// window is how many numbers next to each other there are of which all sets are tried.
const window = 7

// starts are where windows begin: at the least number, about 0, and so that the last one is the greatest.
var starts = [3]int{bottom, -3, top - window + 1}

// picked tells the numbers of a window of which a set's bits are 1, rising.
func picked(start, set int) []int {
	var l []int
	for d := range window {
		if set>>d&1 == 1 {
			l = append(l, start+d)
		}
	}
	return l
}

// runs tells the right list of numbers that rise, by the chapter's words alone.
func runs(rising []int) list {
	var l list
	for i := 0; i < len(rising); {
		k := i
		for k+1 < len(rising) && rising[k+1] == rising[k]+1 {
			k++
		}
		l = append(l, api.Span{Low: rising[i], High: rising[k]})
		i = k + 1
	}
	return l
}

// laid tells the numbers of a small right list, rising.
func laid(l list) []int {
	var numbers []int
	for _, s := range l {
		for v := s.Low; v <= s.High; v++ {
			numbers = append(numbers, v)
		}
	}
	return numbers
}

// P3.1: lists that are right, and lists that aren't.
func TestRight(t *testing.T) {
	for _, l := range rights() {
		if !Right(l) {
			t.Errorf("Right(%v): false", l)
		}
	}
	for _, l := range wrongs() {
		if Right(l) {
			t.Errorf("Right(%v): true", l)
		}
	}
}

// P3.1: Right of all lists of two spans whose ends are few numbers, within and without.
func TestRightOfTwoSpans(t *testing.T) {
	may := func(s api.Span) bool { return s.Low <= s.High && s.Low >= bottom && s.High <= top }
	for _, l := range [][]int{
		{-2, -1, 0, 1, 2, 3},
		{bottom - 2, bottom - 1, bottom, bottom + 1, bottom + 2, bottom + 3},
		{top - 3, top - 2, top - 1, top, top + 1, top + 2},
		{math.MinInt, bottom, 0, 2, top, math.MaxInt},
	} {
		for _, a := range l {
			for _, b := range l {
				for _, c := range l {
					for _, d := range l {
						first, second := api.Span{Low: a, High: b}, api.Span{Low: c, High: d}
						want := may(first) && may(second) && c > b+1
						if Right(list{first, second}) != want {
							t.Errorf("Right of %v, %v: not %t", first, second, want)
						}
					}
				}
			}
		}
	}
}

// P3.1: Size, written out.
func TestSize(t *testing.T) {
	for _, c := range []struct {
		l list
		n int
	}{
		{nil, 0},
		{list{}, 0},
		{lay(5, 5), 1},
		{lay(-3, 5), 9},
		{lay(1, 3, 5, 5), 4},
		{lay(bottom, bottom, top, top), 2},
		{lay(bottom, -1, 1, top), 2 * api.MostNum},
		{lay(bottom, top), 2*api.MostNum + 1},
	} {
		if n := Size(c.l); n != c.n {
			t.Errorf("Size(%v): %d; want %d", c.l, n, c.n)
		}
	}
}

// P3.1: Has and Place of a list of ends and gaps, written out.
func TestPlaceWrittenOut(t *testing.T) {
	l := lay(bottom, bottom+1, 1, 3, 5, 5, top-1, top)
	for _, c := range []struct{ v, place int }{
		{math.MinInt, -1}, {bottom - 1, -1}, {bottom, 0}, {bottom + 1, 1}, {bottom + 2, -1},
		{0, -1}, {1, 2}, {2, 3}, {3, 4}, {4, -1}, {5, 5}, {6, -1},
		{top - 2, -1}, {top - 1, 6}, {top, 7}, {top + 1, -1}, {math.MaxInt, -1},
	} {
		if k := Place(l, c.v); k != c.place {
			t.Errorf("Place(%v, %d): %d; want %d", l, c.v, k, c.place)
		}
		if Has(l, c.v) != (c.place >= 0) {
			t.Errorf("Has(%v, %d): not %t", l, c.v, c.place >= 0)
		}
	}
}

// P3.1: At of the same list, written out, at and beyond its ends.
func TestAtWrittenOut(t *testing.T) {
	l := lay(bottom, bottom+1, 1, 3, 5, 5, top-1, top)
	for k, v := range []int{bottom, bottom + 1, 1, 2, 3, 5, top - 1, top} {
		if n, ok := At(l, k); n != v || !ok {
			t.Errorf("At(%v, %d): %d, %t; want %d, true", l, k, n, ok, v)
		}
	}
	for _, k := range []int{math.MinInt, -2, -1, 8, 9, math.MaxInt} {
		if n, ok := At(l, k); n != 0 || ok {
			t.Errorf("At(%v, %d): %d, %t; want 0, false", l, k, n, ok)
		}
	}
	if n, ok := At(all(), 2*api.MostNum); n != top || !ok {
		t.Errorf("At of all, the last: %d, %t", n, ok)
	}
	if n, ok := At(all(), 2*api.MostNum+1); n != 0 || ok {
		t.Errorf("At of all, behind the last: %d, %t", n, ok)
	}
}

// P3.1: of the empty list no number is one, and none has a place.
func TestOfTheEmptyList(t *testing.T) {
	for _, l := range []list{nil, {}} {
		if !Right(l) || Size(l) != 0 {
			t.Errorf("the empty list: %t, %d", Right(l), Size(l))
		}
		for _, v := range numbers() {
			if Has(l, v) || Place(l, v) != -1 {
				t.Errorf("the empty list has %d: %t, %d", v, Has(l, v), Place(l, v))
			}
			if n, ok := At(l, v); n != 0 || ok {
				t.Errorf("At of the empty list, %d: %d, %t", v, n, ok)
			}
		}
	}
}

// P3.1: of a list that isn't right: 0, false, 0 and false, -1.
func TestOfWrongLists(t *testing.T) {
	for _, l := range wrongs() {
		if n := Size(l); n != 0 {
			t.Errorf("Size(%v): %d", l, n)
		}
		for _, v := range numbers() {
			if Has(l, v) {
				t.Errorf("Has(%v, %d): true", l, v)
			}
			if k := Place(l, v); k != -1 {
				t.Errorf("Place(%v, %d): %d", l, v, k)
			}
			if n, ok := At(l, v); n != 0 || ok {
				t.Errorf("At(%v, %d): %d, %t", l, v, n, ok)
			}
		}
	}
}

// P3.1: all calls of one list, of all sets of the windows.
func TestOfAllSets(t *testing.T) {
	for _, start := range starts {
		for set := range 1 << window {
			want := picked(start, set)
			l := runs(want)
			if !Right(l) || Size(l) != len(want) {
				t.Errorf("%v: %t, %d", l, Right(l), Size(l))
			}
			for v := start - 2; v < start+window+2; v++ {
				place := slices.Index(want, v)
				if Has(l, v) != (place >= 0) || Place(l, v) != place {
					t.Errorf("%v has %d: %t, %d; want place %d", l, v, Has(l, v), Place(l, v), place)
				}
			}
			for k := -2; k < window+2; k++ {
				v, ok := 0, k >= 0 && k < len(want)
				if ok {
					v = want[k]
				}
				if n, told := At(l, k); n != v || told != ok {
					t.Errorf("At(%v, %d): %d, %t; want %d, %t", l, k, n, told, v, ok)
				}
			}
		}
	}
}

// P3.2: Of, written out; the chapter's example is among these.
func TestOf(t *testing.T) {
	for _, c := range []struct {
		values []int
		l      list
	}{
		{nil, nil},
		{[]int{}, nil},
		{[]int{3, 1, 2, 7}, lay(1, 3, 7, 7)},
		{[]int{0}, lay(0, 0)},
		{[]int{4, 4, 4}, lay(4, 4)},
		{[]int{1, 2, 1, 3, 2, 3, 1}, lay(1, 3)},
		{[]int{1, 3}, lay(1, 1, 3, 3)},
		{[]int{3, 1, 3, 1}, lay(1, 1, 3, 3)},
		{[]int{1, 3, 2}, lay(1, 3)},
		{[]int{1, 0, -1}, lay(-1, 1)},
		{[]int{top, bottom}, lay(bottom, bottom, top, top)},
		{[]int{top, top - 1, bottom + 1, bottom, top}, lay(bottom, bottom+1, top-1, top)},
		{[]int{top - 2, top, bottom + 2, bottom}, lay(bottom, bottom, bottom+2, bottom+2, top-2, top-2, top, top)},
	} {
		if l, e := Of(c.values); !slices.Equal(l, c.l) || e != api.OK {
			t.Errorf("Of(%d): %v, %d; want %v", c.values, l, e, c.l)
		}
	}
}

// P3.2: ErrArg, and no list, wherever a number stands that is beyond MostNum.
func TestOfNumbersBeyond(t *testing.T) {
	for _, v := range []int{bottom - 1, bottom - 2, math.MinInt, top + 1, top + 2, math.MaxInt, 1 << 32, -1 << 32} {
		for _, values := range [][]int{{v}, {v, v}, {v, 1, 2}, {1, v, 2}, {1, 2, v}, {bottom, top, v}, {v, -v}} {
			if l, e := Of(values); len(l) != 0 || e != api.ErrArg {
				t.Errorf("Of(%d): %v, %d; want ErrArg", values, l, e)
			}
		}
	}
}

// P3.2: Of all sets of the windows, rising, falling, and each twice.
func TestOfInAnyOrder(t *testing.T) {
	for _, start := range starts {
		for set := range 1 << window {
			values := picked(start, set)
			want := runs(values)
			falling := slices.Clone(values)
			slices.Reverse(falling)
			for _, given := range [][]int{values, falling, slices.Concat(values, falling), slices.Concat(falling, values)} {
				if l, e := Of(given); !slices.Equal(l, want) || e != api.OK {
					t.Errorf("Of(%d): %v, %d; want %v", given, l, e, want)
				}
			}
		}
	}
}

// P3.2: a list that is as long as one may be, of numbers in no order.
func TestOfManyNumbers(t *testing.T) {
	const n = api.MostNum + 1
	values := make([]int, n)
	for i := range values {
		// 3 and n have no divisor in common, so that this goes through all.
		values[i] = bottom + i*3%n*2
	}
	l, e := Of(values)
	if len(l) != n || e != api.OK || !Right(l) || Size(l) != n {
		t.Fatalf("Of every other number: %d spans, %d, %t, %d", len(l), e, Right(l), Size(l))
	}
	rest := Less(all(), l)
	if len(rest) != n-1 || !Right(rest) || Size(rest) != n-1 {
		t.Errorf("all others: %d spans, %t, %d", len(rest), Right(rest), Size(rest))
	}
	if both := Union(rest, l); !slices.Equal(both, all()) {
		t.Errorf("all: %d spans", len(both))
	}
	if both := Meet(rest, l); len(both) != 0 {
		t.Errorf("none: %d spans", len(both))
	}
}

// P3.2: Union, Meet and Less, written out; the chapter's example is among these.
func TestOfTwoListsWrittenOut(t *testing.T) {
	for _, c := range []struct{ a, b, union, meet, less list }{
		{nil, nil, nil, nil, nil},
		{nil, lay(1, 3), lay(1, 3), nil, nil},
		{lay(1, 3), nil, lay(1, 3), nil, lay(1, 3)},
		{lay(1, 3), lay(1, 3), lay(1, 3), lay(1, 3), nil},
		{lay(1, 9), lay(3, 4), lay(1, 9), lay(3, 4), lay(1, 2, 5, 9)},
		{lay(3, 4), lay(1, 9), lay(1, 9), lay(3, 4), nil},
		{lay(1, 3), lay(4, 6), lay(1, 6), nil, lay(1, 3)},
		{lay(4, 6), lay(1, 3), lay(1, 6), nil, lay(4, 6)},
		{lay(1, 3), lay(5, 6), lay(1, 3, 5, 6), nil, lay(1, 3)},
		{lay(1, 3, 5, 7), lay(4, 4), lay(1, 7), nil, lay(1, 3, 5, 7)},
		{lay(1, 3, 5, 7), lay(3, 5), lay(1, 7), lay(3, 3, 5, 5), lay(1, 2, 6, 7)},
		{lay(1, 7), lay(1, 1, 7, 7), lay(1, 7), lay(1, 1, 7, 7), lay(2, 6)},
		{lay(bottom, top), lay(0, 0), lay(bottom, top), lay(0, 0), lay(bottom, -1, 1, top)},
		{lay(bottom, top), lay(bottom, bottom), lay(bottom, top), lay(bottom, bottom), lay(bottom+1, top)},
		{lay(bottom, top), lay(top, top), lay(bottom, top), lay(top, top), lay(bottom, top-1)},
		{lay(bottom, -1), lay(0, top), lay(bottom, top), nil, lay(bottom, -1)},
		{lay(bottom, bottom), lay(top, top), lay(bottom, bottom, top, top), nil, lay(bottom, bottom)},
	} {
		if l := Union(c.a, c.b); !slices.Equal(l, c.union) {
			t.Errorf("Union(%v, %v): %v; want %v", c.a, c.b, l, c.union)
		}
		if l := Meet(c.a, c.b); !slices.Equal(l, c.meet) {
			t.Errorf("Meet(%v, %v): %v; want %v", c.a, c.b, l, c.meet)
		}
		if l := Less(c.a, c.b); !slices.Equal(l, c.less) {
			t.Errorf("Less(%v, %v): %v; want %v", c.a, c.b, l, c.less)
		}
	}
}

// P3.2: Union, Meet and Less of all pairs of sets of the windows.
func TestOfTwoLists(t *testing.T) {
	for _, start := range starts {
		var lists [1 << window]list
		for set := range lists {
			lists[set] = runs(picked(start, set))
		}
		for x, a := range lists {
			for y, b := range lists {
				if l := Union(a, b); !slices.Equal(l, lists[x|y]) {
					t.Fatalf("Union(%v, %v): %v; want %v", a, b, l, lists[x|y])
				}
				if l := Meet(a, b); !slices.Equal(l, lists[x&y]) {
					t.Fatalf("Meet(%v, %v): %v; want %v", a, b, l, lists[x&y])
				}
				if l := Less(a, b); !slices.Equal(l, lists[x&^y]) {
					t.Fatalf("Less(%v, %v): %v; want %v", a, b, l, lists[x&^y])
				}
			}
		}
	}
}

// P3.2: none, if the one or the other isn't right, or both.
func TestOfTwoListsThatAreWrong(t *testing.T) {
	for _, wrong := range wrongs() {
		for _, other := range slices.Concat(rights(), wrongs()) {
			for _, c := range [][2]list{{wrong, other}, {other, wrong}} {
				if l := Union(c[0], c[1]); len(l) != 0 {
					t.Errorf("Union(%v, %v): %v", c[0], c[1], l)
				}
				if l := Meet(c[0], c[1]); len(l) != 0 {
					t.Errorf("Meet(%v, %v): %v", c[0], c[1], l)
				}
				if l := Less(c[0], c[1]); len(l) != 0 {
					t.Errorf("Less(%v, %v): %v", c[0], c[1], l)
				}
			}
		}
	}
}

// P3.3: numbers make one right list alone: a list comes back from its numbers, and numbers from their list.
func TestOneListAlone(t *testing.T) {
	for _, start := range starts {
		for set := range 1 << window {
			values := picked(start, set)
			l, e := Of(values)
			if e != api.OK || !Right(l) || !slices.Equal(laid(l), values) {
				t.Errorf("Of(%d): %v, %d", values, l, e)
			}
			if again, e := Of(laid(l)); !slices.Equal(again, l) || e != api.OK {
				t.Errorf("%v comes back as %v, %d", l, again, e)
			}
		}
	}
}

// P3.3: At and Place undo each other, and Size tells where they end.
func TestAtAndPlace(t *testing.T) {
	for _, l := range rights() {
		n := Size(l)
		for _, k := range []int{0, 1, 2, 3, n / 2, n - 2, n - 1} {
			v, ok := At(l, k)
			if ok != (k >= 0 && k < n) {
				t.Errorf("At(%v, %d): %t of %d", l, k, ok, n)
			}
			if ok && (!Has(l, v) || Place(l, v) != k) {
				t.Errorf("At(%v, %d): %d, of which Place is %d", l, k, v, Place(l, v))
			}
		}
		if _, ok := At(l, n); ok {
			t.Errorf("At(%v, %d) is one more than Size tells", l, n)
		}
	}
}

// P3.3: Union, Meet and Less are those of sets, of lists of all widths: by Has, by Size, and by each other.
func TestLawsOfSets(t *testing.T) {
	for _, a := range rights() {
		for _, b := range rights() {
			union, meet, less := Union(a, b), Meet(a, b), Less(a, b)
			if !Right(union) || !Right(meet) || !Right(less) {
				t.Errorf("of %v, %v one isn't right: %v, %v, %v", a, b, union, meet, less)
			}
			for _, v := range numbers() {
				x, y := Has(a, v), Has(b, v)
				if Has(union, v) != (x || y) || Has(meet, v) != (x && y) || Has(less, v) != (x && !y) {
					t.Errorf("of %v, %v at %d: %t, %t, %t", a, b, v, Has(union, v), Has(meet, v), Has(less, v))
				}
			}
			if Size(union)+Size(meet) != Size(a)+Size(b) || Size(meet)+Size(less) != Size(a) {
				t.Errorf("of %v, %v the sizes are %d, %d, %d", a, b, Size(union), Size(meet), Size(less))
			}
			if !slices.Equal(union, Union(b, a)) || !slices.Equal(meet, Meet(b, a)) {
				t.Errorf("Union or Meet of %v, %v doesn't turn about", a, b)
			}
			if !slices.Equal(Union(less, meet), a) || len(Meet(less, b)) != 0 || !slices.Equal(Union(less, b), union) {
				t.Errorf("Less(%v, %v): %v, with what is of both %v", a, b, less, meet)
			}
			if other := Less(all(), union); !slices.Equal(other, Meet(Less(all(), a), Less(all(), b))) {
				t.Errorf("what is of neither %v nor %v: %v", a, b, other)
			}
		}
	}
}

// P3.3: of three lists it is all the same which two come first.
func TestLawsOfThreeSets(t *testing.T) {
	for _, a := range rights() {
		for _, b := range rights() {
			for _, c := range rights() {
				if !slices.Equal(Union(a, Union(b, c)), Union(Union(a, b), c)) || !slices.Equal(Meet(a, Meet(b, c)), Meet(Meet(a, b), c)) {
					t.Errorf("%v, %v, %v: the order is seen", a, b, c)
				}
				if !slices.Equal(Meet(a, Union(b, c)), Union(Meet(a, b), Meet(a, c))) {
					t.Errorf("%v, %v, %v: Meet of a Union isn't that of both", a, b, c)
				}
				if !slices.Equal(Less(a, Union(b, c)), Less(Less(a, b), c)) {
					t.Errorf("%v, %v, %v: Less of a Union isn't that of one behind the other", a, b, c)
				}
			}
		}
	}
}

// R3: an answer shares nothing with a list that was handed in, nor with another answer.
func TestAnswersAreNotShared(t *testing.T) {
	a, b := lay(1, 3, 7, 9), lay(20, 30)
	for _, call := range []func(a, b list) list{Union, Meet, Less} {
		for _, pair := range [][2]list{{a, b}, {b, a}, {a, nil}, {nil, a}, {a, a}, {a, all()}} {
			l := call(pair[0], pair[1])
			for i := range l {
				l[i] = api.Span{Low: -5, High: -5}
			}
		}
	}
	if !slices.Equal(a, lay(1, 3, 7, 9)) || !slices.Equal(b, lay(20, 30)) {
		t.Errorf("an answer was changed, and with it a list: %v, %v", a, b)
	}
}

// R3: lists that are handed in stay as they were, and so does what lies behind their ends.
func TestListsStayAsTheyWere(t *testing.T) {
	values := []int{7, 3, 3, -1, 5, 99}
	if _, e := Of(values[:5]); e != api.OK || !slices.Equal(values, []int{7, 3, 3, -1, 5, 99}) {
		t.Errorf("Of changed its list: %d", values)
	}
	wrong := []int{7, top + 1, 3}
	if _, e := Of(wrong); e != api.ErrArg || !slices.Equal(wrong, []int{7, top + 1, 3}) {
		t.Errorf("Of changed its list beside an error: %d", wrong)
	}
	kept := lay(1, 3, 5, 7, 50, 60)
	a, b := slices.Clone(kept), slices.Clone(kept)
	for _, call := range []func(a, b list) list{Union, Meet, Less} {
		call(a[:2], b[1:2])
		call(b[:1], a[1:2])
	}
	if !slices.Equal(a, kept) || !slices.Equal(b, kept) {
		t.Errorf("a list was changed: %v, %v", a, b)
	}
}
