package trail

import (
	"math"
	"slices"
	"strconv"
	"testing"

	"stratagem/api"
)

// trailOf makes a trail of which the chapter says that it is one.
func trailOf[T comparable](t *testing.T, n int) *Trail[T] {
	t.Helper()
	k, e := New[T](n)
	if k == nil || e != api.OK {
		t.Fatalf("New(%d): %v, %d", n, k, e)
	}
	return k
}

// plain is a trail by the chapter's words alone: at each mark all cells are written down.
type plain[T comparable] struct {
	now, first []T
	stamps     []int
	then       [][]T
}

func plainOf[T comparable](n int) *plain[T] {
	return &plain[T]{now: make([]T, n), first: make([]T, n), stamps: make([]int, n)}
}

func (p *plain[T]) set(i int, x T) api.Errno {
	if i < 0 || i >= len(p.now) {
		return api.ErrArg
	}
	if p.now[i] != x {
		p.stamps[i]++
	}
	p.now[i] = x
	return api.OK
}

func (p *plain[T]) save() int {
	p.then = append(p.then, slices.Clone(p.now))
	return len(p.then)
}

func (p *plain[T]) undo() api.Errno {
	if len(p.then) == 0 {
		return api.ErrNone
	}
	last := p.then[len(p.then)-1]
	for i, x := range last {
		p.set(i, x)
	}
	p.then = p.then[:len(p.then)-1]
	return api.OK
}

func (p *plain[T]) changed() []int {
	last := p.first
	if len(p.then) > 0 {
		last = p.then[len(p.then)-1]
	}
	var l []int
	for i, x := range last {
		if p.now[i] != x {
			l = append(l, i)
		}
	}
	return l
}

// tells tells whether a trail answers what is written down.
func tells[T comparable](k *Trail[T], p *plain[T]) bool {
	if k.Len() != len(p.now) || k.Marks() != len(p.then) || !slices.Equal(k.Changed(), p.changed()) {
		return false
	}
	for i, x := range p.now {
		if got, is := k.Get(i); got != x || !is || k.Stamp(i) != p.stamps[i] {
			return false
		}
	}
	return true
}

// P5.1: New of numbers about both ends.
func TestNew(t *testing.T) {
	for _, n := range []int{math.MinInt, -1001, -1000, -1, 1001, 1002, 1 << 32, math.MaxInt} {
		if k, e := New[int](n); k != nil || e != api.ErrArg {
			t.Errorf("New(%d): %v, %d", n, k, e)
		}
	}
	for _, n := range []int{0, 1, 2, 999, 1000} {
		k, e := New[int](n)
		if k == nil || e != api.OK {
			t.Fatalf("New(%d): %v, %d", n, k, e)
		}
		if k.Len() != n || k.Marks() != 0 || len(k.Changed()) != 0 {
			t.Errorf("New(%d): %d cells, %d marks, %d changed", n, k.Len(), k.Marks(), k.Changed())
		}
		for i := range n {
			if x, is := k.Get(i); x != 0 || !is || k.Stamp(i) != 0 {
				t.Errorf("New(%d), cell %d: %d, %t, %d", n, i, x, is, k.Stamp(i))
			}
		}
	}
}

// P5.1: of cells that there aren't: the zero value, false, 0 and ErrArg; and nothing is changed.
func TestNoSuchCell(t *testing.T) {
	for _, n := range []int{0, 1, 3, 1000} {
		k := trailOf[int](t, n)
		p := plainOf[int](n)
		for i := range n {
			k.Set(i, i+1)
			p.set(i, i+1)
		}
		for range 2 {
			for _, i := range []int{math.MinInt, -1 << 32, -n - 1, -1, n, n + 1, 1000, 1001, 1 << 32, math.MaxInt} {
				if i >= 0 && i < n {
					continue
				}
				if x, is := k.Get(i); x != 0 || is {
					t.Errorf("of %d, Get(%d): %d, %t", n, i, x, is)
				}
				if k.Stamp(i) != 0 {
					t.Errorf("of %d, Stamp(%d): %d", n, i, k.Stamp(i))
				}
				if e := k.Set(i, 9); e != api.ErrArg {
					t.Errorf("of %d, Set(%d, 9): %d", n, i, e)
				}
				if !tells(k, p) {
					t.Fatalf("of %d, Set(%d, 9) changed what there is", n, i)
				}
			}
			k.Save()
			p.save()
		}
	}
}

// P5.1: the first cell and the last one, written out; a Set of what a cell has already lets its stamp stay.
func TestSet(t *testing.T) {
	for _, n := range []int{1, 2, 1000} {
		for _, i := range []int{0, n - 1} {
			k := trailOf[int](t, n)
			for _, c := range []struct{ x, stamp int }{{0, 0}, {5, 1}, {5, 1}, {-5, 2}, {0, 3}, {0, 3}, {5, 4}, {math.MinInt, 5}, {math.MinInt, 5}} {
				if e := k.Set(i, c.x); e != api.OK {
					t.Errorf("Set(%d, %d): %d", i, c.x, e)
				}
				if x, is := k.Get(i); x != c.x || !is || k.Stamp(i) != c.stamp {
					t.Errorf("Set(%d, %d): %d, %t, and its stamp is %d; want %d", i, c.x, x, is, k.Stamp(i), c.stamp)
				}
			}
			for j := range n {
				if x, is := k.Get(j); j != i && (x != 0 || !is || k.Stamp(j) != 0) {
					t.Errorf("Set(%d) changed cell %d: %d, %t, %d", i, j, x, is, k.Stamp(j))
				}
			}
		}
	}
}

// P5.1 and P5.2: the chapter's example.
func TestExample(t *testing.T) {
	k := trailOf[int](t, 1)
	k.Set(0, 5)
	k.Save()
	k.Set(0, 6)
	k.Set(0, 7)
	k.Undo()
	if x, is := k.Get(0); x != 5 || !is || k.Stamp(0) != 4 {
		t.Errorf("%d, %t, and its stamp is %d", x, is, k.Stamp(0))
	}
}

// P5.2: Undo without a mark answers ErrNone, and changes nothing: at first, and when all marks are gone again.
func TestUndoWithoutMark(t *testing.T) {
	for _, n := range []int{0, 2} {
		k, p := trailOf[int](t, n), plainOf[int](n)
		for round := range 3 {
			for range 2 {
				if e := k.Undo(); e != api.ErrNone || !tells(k, p) {
					t.Errorf("round %d: Undo without a mark: %d, and %v", round, e, k.Changed())
				}
			}
			k.Set(1, round+1)
			p.set(1, round+1)
			if e := k.Undo(); e != api.ErrNone || !tells(k, p) {
				t.Errorf("round %d: Undo without a mark, a Set ahead of it: %d", round, e)
			}
			if k.Save() != 1 || k.Set(0, 8) != p.set(0, 8) || k.Undo() != api.OK {
				t.Errorf("round %d: Save, Set, Undo", round)
			}
			p.set(0, 0)
		}
	}
}

// P5.2: Save tells how many marks there are then, Marks too; so many marks with nothing between them go one by one.
func TestMarksWithNothingBetween(t *testing.T) {
	k := trailOf[int](t, 3)
	k.Set(1, 4)
	for round := range 2 {
		for i := range 5 {
			if n := k.Save(); n != i+1 || k.Marks() != i+1 || len(k.Changed()) != 0 {
				t.Errorf("round %d, Save %d: %d, %d, changed %d", round, i, n, k.Marks(), k.Changed())
			}
		}
		k.Set(0, 7)
		for i := range 5 {
			if e := k.Undo(); e != api.OK || k.Marks() != 4-i {
				t.Errorf("round %d, Undo %d: %d, %d", round, i, e, k.Marks())
			}
			if x, _ := k.Get(0); x != 0 {
				t.Errorf("round %d, Undo %d: %d", round, i, x)
			}
			if x, _ := k.Get(1); x != 4 || k.Stamp(1) != 1 {
				t.Errorf("round %d, Undo %d: %d, %d", round, i, x, k.Stamp(1))
			}
		}
		// What was done behind the last mark was turned back once: its stamp rose by two.
		if k.Stamp(0) != 2*(round+1) || !slices.Equal(k.Changed(), []int{1}) {
			t.Errorf("round %d: %d, changed %d", round, k.Stamp(0), k.Changed())
		}
	}
}

// P5.2: Changed, written out: without a mark than at first, else than at the last mark alone, rising.
func TestChanged(t *testing.T) {
	k := trailOf[int](t, 12)
	want := func(step string, l ...int) {
		t.Helper()
		if got := k.Changed(); !slices.Equal(got, l) {
			t.Errorf("%s: %d; want %d", step, got, l)
		}
	}
	want("at first")
	k.Set(11, 1)
	k.Set(3, 1)
	k.Set(0, 1)
	k.Set(7, 0)
	want("without a mark", 0, 3, 11)
	k.Set(3, 0)
	want("one as at first", 0, 11)
	k.Save()
	want("behind a mark")
	k.Set(9, 2)
	k.Set(2, 2)
	k.Set(0, 2)
	k.Set(11, 1)
	want("changed behind a mark", 0, 2, 9)
	// A cell that has what it had at first is another one than at the mark.
	k.Set(0, 0)
	want("at first isn't at the mark", 0, 2, 9)
	stamp := k.Stamp(2)
	k.Set(2, 0)
	want("one as at the mark", 0, 9)
	if k.Stamp(2) != stamp+1 {
		t.Errorf("stamp of cell 2: %d", k.Stamp(2))
	}
	k.Save()
	want("behind two marks")
	k.Set(9, 3)
	k.Set(2, 3)
	want("changed behind two marks", 2, 9)
	k.Undo()
	want("one mark again", 0, 9)
	k.Undo()
	want("no mark again", 0, 11)
}

// P5.2: a cell that is changed and gets what it had at the mark again: Changed says nothing, its stamp has risen by two.
func TestChangedThereAndBack(t *testing.T) {
	for _, had := range []int{0, 5} {
		for marks := range 3 {
			k := trailOf[int](t, 2)
			if marks > 0 {
				k.Set(1, had)
			} else {
				had = 0
			}
			for range marks {
				k.Save()
			}
			stamp := k.Stamp(1)
			k.Set(1, 9)
			if !slices.Equal(k.Changed(), []int{1}) {
				t.Errorf("%d marks, %d: changed %d", marks, had, k.Changed())
			}
			k.Set(1, had)
			if len(k.Changed()) != 0 || k.Stamp(1) != stamp+2 {
				t.Errorf("%d marks, %d: changed %d, and its stamp is %d", marks, had, k.Changed(), k.Stamp(1))
			}
			if marks > 0 {
				k.Undo()
				if x, _ := k.Get(1); x != had || k.Stamp(1) != stamp+2 {
					t.Errorf("%d marks, %d: turned back: %d, and its stamp is %d", marks, had, x, k.Stamp(1))
				}
			}
		}
	}
}

// P5.2: marks are set, turned back and set anew: what was held of those that are gone is gone, too.
func TestMarksAnew(t *testing.T) {
	k := trailOf[int](t, 4)
	for round := 1; round <= 4; round++ {
		k.Set(3, round)
		k.Save()
		k.Set(0, 10*round)
		k.Save()
		k.Set(round%3, 100*round)
		k.Set(3, -round)
		k.Undo()
		k.Save()
		if len(k.Changed()) != 0 {
			t.Errorf("round %d: a mark anew, changed %d", round, k.Changed())
		}
		k.Set(1, 1000*round)
		if !slices.Equal(k.Changed(), []int{1}) {
			t.Errorf("round %d: behind a mark anew, changed %d", round, k.Changed())
		}
		k.Undo()
		for i, want := range []int{10 * round, 0, 0, round} {
			if x, _ := k.Get(i); x != want {
				t.Errorf("round %d: cell %d has %d; want %d", round, i, x, want)
			}
		}
		k.Undo()
		for i, want := range []int{0, 0, 0, round} {
			if x, _ := k.Get(i); x != want {
				t.Errorf("round %d: cell %d has %d at last; want %d", round, i, x, want)
			}
		}
		if k.Marks() != 0 || !slices.Equal(k.Changed(), []int{3}) {
			t.Errorf("round %d: %d marks, changed %d", round, k.Marks(), k.Changed())
		}
	}
}

// moves are all that can be done to a trail of two cells and three things: 0 to 5 are Sets, 6 is Save, 7 is Undo.
const moves = 8

// move does one to a trail, and writes it down; it tells whether both answered the same.
func move(k *Trail[int], p *plain[int], m int) bool {
	switch m {
	case 6:
		return k.Save() == p.save()
	case 7:
		return k.Undo() == p.undo()
	}
	return k.Set(m/3, m%3) == p.set(m/3, m%3)
}

// P5.1 to P5.3: all that can be done in five moves.
func TestAllShortWays(t *testing.T) {
	const long = 5
	ways := 1
	for range long {
		ways *= moves
	}
	for w := range ways {
		k, p := trailOf[int](t, 2), plainOf[int](2)
		for left := w; left > 0; left /= moves {
			if !move(k, p, left%moves) {
				t.Fatalf("way %o: another answer", w)
			}
			if !tells(k, p) {
				t.Fatalf("way %o: %v, %v", w, *k, *p)
			}
		}
	}
}

// dice tells numbers without a rule that one sees, the same ones each time.
func dice(from uint64) func(n int) int {
	return func(n int) int {
		from = from*6364136223846793005 + 1442695040888963407
		return int(from>>33) % n
	}
}

// P5.1 to P5.3: long ways, with few cells and many, and marks that are deep or few.
func TestLongWays(t *testing.T) {
	for w := range 60 {
		roll := dice(uint64(w + 1))
		n := []int{1, 5, 40, 1000}[w%4]
		depth := []int{1, 3, 50}[w/4%3]
		k, p := trailOf[int](t, n), plainOf[int](n)
		for step := range 1500 {
			same := true
			switch roll(5) {
			case 0:
				if k.Marks() < depth {
					same = k.Save() == p.save()
				}
			case 1:
				same = k.Undo() == p.undo()
			default:
				i, x := roll(n+2)-1, roll(3)
				same = k.Set(i, x) == p.set(i, x)
			}
			if !same || step%7 == 0 && !tells(k, p) {
				t.Fatalf("way %d, step %d: changed %d; want %d", w, step, k.Changed(), p.changed())
			}
		}
	}
}

// P5.3: turned back, all is as it was at the mark, whatever happened between, but for the stamps; these never fall.
func TestTurnedBack(t *testing.T) {
	for w := range 200 {
		roll := dice(uint64(w + 1000))
		k := trailOf[int](t, 6)
		ahead := func(least, n int) {
			for range n {
				switch {
				case roll(4) > 0:
					k.Set(roll(6), roll(4))
				case roll(2) == 0:
					k.Save()
				case k.Marks() > least:
					k.Undo()
				}
			}
		}
		ahead(0, roll(30))
		marks, changed := k.Marks(), k.Changed()
		var things, stamps []int
		for i := range k.Len() {
			x, _ := k.Get(i)
			things, stamps = append(things, x), append(stamps, k.Stamp(i))
		}
		k.Save()
		ahead(marks+1, roll(60))
		for range k.Marks() - marks {
			if k.Undo() != api.OK {
				t.Fatalf("way %d: a mark that can't be turned back", w)
			}
		}
		if k.Marks() != marks || !slices.Equal(k.Changed(), changed) {
			t.Errorf("way %d: %d marks, changed %d; want %d, %d", w, k.Marks(), k.Changed(), marks, changed)
		}
		for i := range k.Len() {
			x, is := k.Get(i)
			risen := k.Stamp(i) - stamps[i]
			// A cell comes back to what it had in no step, or in two or more.
			if x != things[i] || !is || risen < 0 || risen == 1 {
				t.Errorf("way %d, cell %d: %d, and its stamp has risen by %d; want %d", w, i, x, risen, things[i])
			}
		}
	}
}

// P5.3: trails know nothing of each other.
func TestTrailsApart(t *testing.T) {
	a, b := trailOf[int](t, 3), trailOf[int](t, 3)
	a.Set(0, 1)
	a.Save()
	a.Set(1, 2)
	if !tells(b, plainOf[int](3)) || b.Undo() != api.ErrNone {
		t.Errorf("another trail was changed: %v", *b)
	}
	b.Set(2, 5)
	if !slices.Equal(a.Changed(), []int{1}) || a.Stamp(2) != 0 {
		t.Errorf("another trail was changed: %v", *a)
	}
}

// R3: what is changed in the list that Changed answers changes nothing of the trail, nor of another such list.
func TestChangedIsNotShared(t *testing.T) {
	k, p := trailOf[int](t, 5), plainOf[int](5)
	for marks := range 3 {
		for _, i := range []int{4, 1, 3} {
			k.Set(i, marks+1)
			p.set(i, marks+1)
		}
		one, other := k.Changed(), k.Changed()
		for i := range one {
			one[i] = -7
		}
		_ = append(one[:0], 0, 0, 0, 0)
		if !slices.Equal(other, []int{1, 3, 4}) || !tells(k, p) {
			t.Errorf("%d marks: a list was changed, and with it %d, %v", marks, other, *k)
		}
		k.Save()
		p.save()
		if len(k.Changed()) != 0 || !slices.Equal(other, []int{1, 3, 4}) {
			t.Errorf("%d marks: a mark was set, and with it changed %d, %d", marks, other, k.Changed())
		}
	}
	for range k.Marks() {
		if k.Undo() != p.undo() || !tells(k, p) {
			t.Errorf("%d marks: a list was changed, and what is turned back with it: %v", k.Marks(), *k)
		}
	}
}

// of tries a trail of another type, with its zero value and two other things.
func of[T comparable](t *testing.T, name string, a, b T) {
	t.Helper()
	k, p := trailOf[T](t, 2), plainOf[T](2)
	roll := dice(77)
	var zero T
	for step := range 400 {
		same := true
		switch roll(5) {
		case 0:
			same = k.Save() == p.save()
		case 1:
			same = k.Undo() == p.undo()
		default:
			i, x := roll(2), []T{zero, a, b}[roll(3)]
			same = k.Set(i, x) == p.set(i, x)
		}
		if !same || !tells(k, p) {
			t.Fatalf("%s, step %d: changed %d; want %d", name, step, k.Changed(), p.changed())
		}
	}
	if x, is := k.Get(2); x != zero || is || k.Set(-1, a) != api.ErrArg || k.Set(2, a) != api.ErrArg {
		t.Errorf("%s: a cell that there isn't has %v, %t", name, x, is)
	}
	if n, e := New[T](1001); n != nil || e != api.ErrArg {
		t.Errorf("%s: New(1001): %v, %d", name, n, e)
	}
}

// P5.1 to P5.3: cells of other types than int.
func TestOtherTypes(t *testing.T) {
	type pair struct {
		name string
		at   api.Span
	}
	of(t, "bool", true, true)
	of(t, "uint64", uint64(1), uint64(math.MaxUint64))
	of(t, "int8", int8(-128), int8(127))
	of(t, "string", "a", "a\x00"+strconv.Itoa(1))
	of(t, "float64", math.Inf(1), -0.5)
	of(t, "array", [2]string{"", "b"}, [2]string{"b", ""})
	of(t, "struct", pair{"x", api.Span{Low: 1}}, pair{"x", api.Span{High: 1}})
	of(t, "pointer", new(int), new(int))
	of[any](t, "any", 1, "1")
	of[error](t, "error", api.ErrArg, api.ErrNone)
	of(t, "no room", struct{}{}, struct{}{})
}

// P5.2: a cell gets just what it had at the mark again, not what compares to it as the same.
func TestSignOfZero(t *testing.T) {
	k := trailOf[float64](t, 1)
	k.Save()
	k.Set(0, math.Copysign(0, -1))
	if x, _ := k.Get(0); !math.Signbit(x) || k.Stamp(0) != 0 || len(k.Changed()) != 0 {
		t.Errorf("%v, and its stamp is %d, changed %d", x, k.Stamp(0), k.Changed())
	}
	k.Undo()
	if x, _ := k.Get(0); math.Signbit(x) || k.Stamp(0) != 0 {
		t.Errorf("turned back: %v, and its stamp is %d", x, k.Stamp(0))
	}
}

// R1: no call panics, not of things that can't be compared either: each of them is another one.
func TestThingsThatAreNotCompared(t *testing.T) {
	k := trailOf[any](t, 2)
	first, second := []int{1}, []int{2}
	k.Set(0, first)
	k.Set(1, map[string]int{})
	k.Save()
	if k.Set(0, second) != api.OK || k.Stamp(0) != 2 || !slices.Equal(k.Changed(), []int{0}) {
		t.Errorf("its stamp is %d, changed %d", k.Stamp(0), k.Changed())
	}
	if x, is := k.Get(0); !is || x.([]int)[0] != 2 {
		t.Errorf("%v, %t", x, is)
	}
	if k.Undo() != api.OK || k.Stamp(0) != 3 || k.Stamp(1) != 1 || k.Marks() != 0 {
		t.Errorf("turned back, its stamp is %d", k.Stamp(0))
	}
	if x, is := k.Get(0); !is || x.([]int)[0] != 1 {
		t.Errorf("turned back: %v, %t", x, is)
	}
	if !slices.Equal(k.Changed(), []int{0, 1}) {
		t.Errorf("turned back, changed %d", k.Changed())
	}
}

// R1 and P5.2: a great many marks with nothing between them, each of which is turned back.
func TestManyMarks(t *testing.T) {
	const deep = 1 << 18
	k := trailOf[string](t, 1000)
	k.Set(999, "a")
	for i := range deep {
		if n := k.Save(); n != i+1 {
			t.Fatalf("Save %d: %d", i, n)
		}
	}
	k.Set(999, "b")
	for range deep {
		if e := k.Undo(); e != api.OK {
			t.Fatalf("Undo, %d marks: %d", k.Marks(), e)
		}
	}
	if x, _ := k.Get(999); x != "a" || k.Stamp(999) != 3 || k.Marks() != 0 || k.Undo() != api.ErrNone {
		t.Errorf("%s, and its stamp is %d, %d marks", x, k.Stamp(999), k.Marks())
	}
}
