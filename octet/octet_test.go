package octet

import (
	"bytes"
	"hash/fnv"
	"math"
	"slices"
	"strings"
	"testing"

	"stratagem/api"
)

// dice tells numbers that look thrown, the same ones in each run.
type dice uint64

func (d *dice) next() uint64 {
	*d = *d*6364136223846793005 + 1442695040888963407
	return uint64(*d) ^ uint64(*d)>>29
}

// wide is a number of up to so many bits as are thrown: short ones come as often as long ones.
func (d *dice) wide() uint64 {
	return d.next() >> (d.next() >> 8 % 64)
}

func (d *dice) bytes(most int) []byte {
	b := make([]byte, int(d.next()>>8%uint64(most+1)))
	for i := range b {
		b[i] = byte(d.next() >> 16)
	}
	return b
}

// plainSize tells how many bytes a number has, by the chapter's words alone: the fewest that have room beside two bits.
func plainSize(n uint64) int {
	for _, size := range []int{1, 2, 4, 8} {
		if size == 8 || n < uint64(1)<<(8*size-2) {
			return size
		}
	}
	return 0
}

// plainPut tells a number's bytes by the chapter's words alone, bit by bit.
func plainPut(n uint64) []byte {
	size := plainSize(n)
	b := make([]byte, size)
	for bit := range 8*size - 2 {
		if n>>bit&1 == 1 {
			b[size-1-bit/8] |= 1 << (bit % 8)
		}
	}
	b[0] |= byte(slices.Index([]int{1, 2, 4, 8}, size)) << 6
	return b
}

// plainTake tells what Take answers, by the chapter's words alone: which number has these bytes, if one has.
func plainTake(b []byte) (uint64, int, api.Errno) {
	if len(b) == 0 || len(b) < []int{1, 2, 4, 8}[b[0]/64] {
		return 0, 0, api.ErrShort
	}
	size := []int{1, 2, 4, 8}[b[0]/64]
	n := uint64(b[0] % 64)
	for _, x := range b[1:size] {
		n = n*256 + uint64(x)
	}
	if plainSize(n) != size {
		return 0, 0, api.ErrForm
	}
	return n, size, api.OK
}

// edges are the numbers about which the count of bytes changes, and some beside.
var edges = []struct {
	n uint64
	b []byte
}{
	{0, []byte{0}},
	{1, []byte{1}},
	{62, []byte{62}},
	{63, []byte{63}},
	{64, []byte{64, 64}},
	{65, []byte{64, 65}},
	{255, []byte{64, 255}},
	{256, []byte{65, 0}},
	{16382, []byte{127, 254}},
	{16383, []byte{127, 255}},
	{16384, []byte{128, 0, 64, 0}},
	{16385, []byte{128, 0, 64, 1}},
	{1 << 24, []byte{129, 0, 0, 0}},
	{1<<30 - 2, []byte{191, 255, 255, 254}},
	{1<<30 - 1, []byte{191, 255, 255, 255}},
	{1 << 30, []byte{192, 0, 0, 0, 64, 0, 0, 0}},
	{1<<30 + 1, []byte{192, 0, 0, 0, 64, 0, 0, 1}},
	{0x123456789abcdef, []byte{0xc1, 0x23, 0x45, 0x67, 0x89, 0xab, 0xcd, 0xef}},
	{Top - 1, []byte{255, 255, 255, 255, 255, 255, 255, 254}},
	{Top, []byte{255, 255, 255, 255, 255, 255, 255, 255}},
}

// P6.1: Top, and the bytes of numbers about each edge.
func TestPut(t *testing.T) {
	if Top != 4611686018427387903 {
		t.Errorf("Top: %d", uint64(Top))
	}
	for _, c := range edges {
		if b, e := Put(c.n); !bytes.Equal(b, c.b) || e != api.OK {
			t.Errorf("Put(%d): %d, %d", c.n, b, e)
		}
	}
}

// P6.1: numbers that are more than Top have no bytes.
func TestPutBig(t *testing.T) {
	for _, n := range []uint64{Top + 1, Top + 2, 1<<62 + 63, 1 << 63, 1<<63 + 5, 3 << 62, math.MaxUint64 - 1, math.MaxUint64} {
		if b, e := Put(n); len(b) != 0 || e != api.ErrBig {
			t.Errorf("Put(%d): %d, %d", n, b, e)
		}
	}
}

// P6.1: the bytes of many numbers are those that are laid bit by bit.
func TestPutPlainly(t *testing.T) {
	d := dice(61)
	for i := range uint64(200000) {
		n := i
		if i >= 70000 {
			n = d.wide() & Top
		}
		if b, e := Put(n); !bytes.Equal(b, plainPut(n)) || e != api.OK {
			t.Fatalf("Put(%d): %d, %d", n, b, e)
		}
	}
}

// P6.1, P6.3: of bytes that are cut off one by one there are too few, and whatever stands behind them isn't looked at.
func TestTakeCut(t *testing.T) {
	for _, c := range edges {
		for l := range c.b {
			if n, size, e := Take(c.b[:l]); n != 0 || size != 0 || e != api.ErrShort {
				t.Errorf("Take(%d): %d, %d, %d", c.b[:l], n, size, e)
			}
		}
		for _, tail := range [][]byte{nil, {0}, {255}, {64}, {1, 2, 3}, bytes.Repeat([]byte{255}, 20)} {
			b := slices.Concat(c.b, tail)
			if n, size, e := Take(b); n != c.n || size != len(c.b) || e != api.OK {
				t.Errorf("Take(%d): %d, %d, %d", b, n, size, e)
			}
		}
	}
}

// P6.1: no bytes are too few, be they empty or none.
func TestTakeNothing(t *testing.T) {
	for _, b := range [][]byte{nil, {}, make([]byte, 0, 9), []byte{1, 2}[:0]} {
		if n, size, e := Take(b); n != 0 || size != 0 || e != api.ErrShort {
			t.Errorf("Take(%d): %d, %d, %d", b, n, size, e)
		}
	}
}

// P6.1: numbers that have more bytes than they need are told in each of the three lengths, but not if bytes are missing.
func TestTakeTooLong(t *testing.T) {
	for _, b := range [][]byte{
		{64, 0}, {64, 1}, {64, 62}, {64, 63},
		{128, 0, 0, 0}, {128, 0, 0, 63}, {128, 0, 0, 64}, {128, 0, 63, 255},
		{192, 0, 0, 0, 0, 0, 0, 0}, {192, 0, 0, 0, 0, 0, 0, 63}, {192, 0, 0, 0, 0, 0, 0, 64}, {192, 0, 0, 0, 0, 0, 63, 255},
		{192, 0, 0, 0, 0, 0, 64, 0}, {192, 0, 0, 0, 63, 255, 255, 255},
	} {
		for _, tail := range [][]byte{nil, {0}, {200, 200}} {
			l := slices.Concat(b, tail)
			if n, size, e := Take(l); n != 0 || size != 0 || e != api.ErrForm {
				t.Errorf("Take(%d): %d, %d, %d", l, n, size, e)
			}
		}
		for k := range b {
			if n, size, e := Take(b[:k]); n != 0 || size != 0 || e != api.ErrShort {
				t.Errorf("Take(%d): %d, %d, %d", b[:k], n, size, e)
			}
		}
	}
}

// P6.1, P6.3: what the chapter's words alone tell, of all bytes up to two, and of many longer ones; each row of bytes
// that Take takes whole is that number's.
func TestTakePlainly(t *testing.T) {
	look := func(b []byte) {
		t.Helper()
		n, size, e := Take(b)
		if m, s, f := plainTake(b); n != m || size != s || e != f {
			t.Fatalf("Take(%d): %d, %d, %d", b, n, size, e)
		}
		if e != api.OK {
			return
		}
		if l, e := Put(n); !bytes.Equal(l, b[:size]) || e != api.OK {
			t.Fatalf("Put(%d): %d, %d, of %d", n, l, e, b)
		}
	}
	for i := range 256 {
		look([]byte{byte(i)})
		for j := range 256 {
			look([]byte{byte(i), byte(j)})
		}
	}
	d := dice(62)
	for range 100000 {
		b := d.bytes(10)
		look(b)
		// Most bytes of long numbers are 0 here, as they are about the edges.
		for i := 1; i < len(b); i++ {
			if d.next()>>20%3 > 0 {
				b[i] = 0
			}
		}
		if len(b) > 0 {
			b[0] &= 192
		}
		look(b)
	}
}

// P6.3: numbers come back from their bytes, and a greater number has no fewer bytes.
func TestBack(t *testing.T) {
	d := dice(63)
	last := 0
	for i := range uint64(40000) {
		b, _ := Put(i)
		if n, size, e := Take(b); n != i || size != len(b) || e != api.OK || size < last {
			t.Fatalf("%d: %d, %d, %d", i, n, size, e)
		}
		last = len(b)
	}
	for range 50000 {
		less, more := d.wide()&Top, d.wide()&Top
		if less > more {
			less, more = more, less
		}
		a, _ := Put(less)
		b, _ := Put(more)
		if len(a) > len(b) {
			t.Fatalf("%d, %d: %d, %d", less, more, a, b)
		}
		l := slices.Concat(a, b)
		n, size, e := Take(l)
		m, rest, f := Take(l[len(a):])
		if n != less || size != len(a) || e != api.OK || m != more || rest != len(b) || f != api.OK {
			t.Fatalf("%d, %d: %d, %d", less, more, n, m)
		}
	}
}

// P6.1: marks of which it is known what they are.
func TestMark(t *testing.T) {
	for _, c := range []struct {
		text string
		mark uint64
	}{
		{"", 14695981039346656037},
		{"a", 0xaf63dc4c8601ec8c},
		{"b", 0xaf63df4c8601f1a5},
		{"foo", 0xdcb27518fed9d577},
		{"foobar", 0x85944171f73967e8},
		{"\x00", 0xaf63bd4c8601b7df},
		{"chongo was here!\n", 0x46810940eff5f915},
	} {
		if mark := Mark([]byte(c.text)); mark != c.mark {
			t.Errorf("Mark(%q): %x", c.text, mark)
		}
	}
	if Mark(nil) != Mark([]byte{}) || Mark(nil) != 14695981039346656037 {
		t.Errorf("Mark of none: %d", Mark(nil))
	}
}

// P6.1, P6.3: marks go on from byte to byte, and are those of the library.
func TestMarkGoesOn(t *testing.T) {
	d := dice(64)
	for range 2000 {
		b := d.bytes(300)
		last := Mark(nil)
		for i, x := range b {
			next := Mark(b[:i+1])
			if next != (last^uint64(x))*1099511628211 {
				t.Fatalf("Mark(%d): %d behind %d", b[:i+1], next, last)
			}
			last = next
		}
		h := fnv.New64a()
		h.Write(b)
		if Mark(b) != h.Sum64() {
			t.Fatalf("Mark(%d): %d", b, Mark(b))
		}
	}
	long := []byte(strings.Repeat("all the same ", 100000))
	h := fnv.New64a()
	h.Write(long)
	if Mark(long) != h.Sum64() {
		t.Errorf("Mark of %d bytes: %d", len(long), Mark(long))
	}
}

// P6.1: eight bytes of a number, the highest first, of 0 and of the greatest one, too.
func TestEight(t *testing.T) {
	for _, c := range []struct {
		n uint64
		b []byte
	}{
		{0, []byte{0, 0, 0, 0, 0, 0, 0, 0}},
		{1, []byte{0, 0, 0, 0, 0, 0, 0, 1}},
		{256, []byte{0, 0, 0, 0, 0, 0, 1, 0}},
		{0x0102030405060708, []byte{1, 2, 3, 4, 5, 6, 7, 8}},
		{Top, []byte{63, 255, 255, 255, 255, 255, 255, 255}},
		{Top + 1, []byte{64, 0, 0, 0, 0, 0, 0, 0}},
		{14695981039346656037, []byte{0xcb, 0xf2, 0x9c, 0xe4, 0x84, 0x22, 0x23, 0x25}},
		{math.MaxUint64, []byte{255, 255, 255, 255, 255, 255, 255, 255}},
	} {
		if b := Eight(c.n); !bytes.Equal(b, c.b) {
			t.Errorf("Eight(%d): %d", c.n, b)
		}
		r := New(c.b)
		if n := r.Eight(); n != c.n || r.Left() != 0 || r.End() != api.OK {
			t.Errorf("Eight of %d: %d, %d left, %d", c.b, n, r.Left(), r.End())
		}
	}
}

// spent tells whether a reader is one of which something went wrong: each is 0 then, nothing is left, and that stays.
func spent(r *Reader, wrong api.Errno) bool {
	for range 2 {
		if r.Left() != 0 || r.End() != wrong {
			return false
		}
		if r.Num(0) != 0 || r.Eight() != 0 || r.Num(math.MaxUint64) != 0 || r.Num(Top) != 0 {
			return false
		}
	}
	return r.Left() == 0 && r.End() == wrong
}

// P6.2: numbers and eights, one behind the other, up to the end.
func TestReader(t *testing.T) {
	b := slices.Concat([]byte{63, 64, 64, 128, 0, 64, 0}, Eight(math.MaxUint64), []byte{0}, edges[len(edges)-1].b)
	r := New(b)
	left := len(b)
	told := func(what string, n, want uint64, size int) {
		t.Helper()
		left -= size
		end := api.ErrLong
		if left == 0 {
			end = api.OK
		}
		if n != want || r.Left() != left || r.End() != end {
			t.Errorf("%s: %d, %d left, %d", what, n, r.Left(), r.End())
		}
	}
	told("New", 0, 0, 0)
	told("Num", r.Num(63), 63, 1)
	told("Num", r.Num(100), 64, 2)
	told("Num", r.Num(math.MaxUint64), 16384, 4)
	told("Eight", r.Eight(), math.MaxUint64, 8)
	told("Num", r.Num(0), 0, 1)
	told("Num", r.Num(Top), Top, 8)
	if r.Num(5) != 0 || !spent(r, api.ErrShort) {
		t.Errorf("behind the end: %d left, %d", r.Left(), r.End())
	}
}

// P6.2: of no bytes nothing can be read, but they end well.
func TestReaderOfNothing(t *testing.T) {
	for _, b := range [][]byte{nil, {}} {
		r := New(b)
		if r == nil || r.Left() != 0 || r.End() != api.OK || r.End() != api.OK {
			t.Fatalf("New(%d): %v", b, r)
		}
		if r.Num(math.MaxUint64) != 0 || !spent(r, api.ErrShort) {
			t.Errorf("Num: %d left, %d", r.Left(), r.End())
		}
		r = New(b)
		if r.Eight() != 0 || !spent(r, api.ErrShort) {
			t.Errorf("Eight: %d left, %d", r.Left(), r.End())
		}
	}
}

// P6.2: Num at its most, and one above it.
func TestNumMost(t *testing.T) {
	for _, c := range edges {
		b := slices.Concat(c.b, []byte{7, 7})
		r := New(b)
		if n := r.Num(c.n); n != c.n || r.Left() != 2 || r.End() != api.ErrLong {
			t.Errorf("Num(%d): %d, %d left, %d", c.n, n, r.Left(), r.End())
		}
		if n := r.Num(7); n != 7 || r.Left() != 1 || r.Num(6) != 0 || !spent(r, api.ErrBig) {
			t.Errorf("behind %d: %d, %d left, %d", c.n, n, r.Left(), r.End())
		}
		if c.n == 0 {
			continue
		}
		for _, most := range []uint64{c.n - 1, c.n / 2, 0} {
			r := New(b)
			if n := r.Num(most); n != 0 || !spent(r, api.ErrBig) {
				t.Errorf("Num(%d) of %d: %d, %d left, %d", most, c.n, n, r.Left(), r.End())
			}
		}
	}
}

// P6.2: what Take tells goes wrong ahead of what is more than most.
func TestNumWrong(t *testing.T) {
	for _, c := range []struct {
		b []byte
		e api.Errno
	}{
		{[]byte{64}, api.ErrShort},
		{[]byte{191, 255, 255}, api.ErrShort},
		{[]byte{255, 255, 255, 255, 255, 255, 255}, api.ErrShort},
		{[]byte{64, 63}, api.ErrForm},
		{[]byte{64, 63, 1, 1}, api.ErrForm},
		{[]byte{128, 0, 63, 255, 9}, api.ErrForm},
		{[]byte{192, 0, 0, 0, 63, 255, 255, 255}, api.ErrForm},
	} {
		for _, most := range []uint64{0, 1, Top, math.MaxUint64} {
			r := New(c.b)
			if n := r.Num(most); n != 0 || !spent(r, c.e) {
				t.Errorf("Num(%d) of %d: %d, %d left, %d", most, c.b, n, r.Left(), r.End())
			}
		}
	}
}

// P6.2: Eight with less than eight bytes left goes wrong; they are no number that Num could read then.
func TestEightShort(t *testing.T) {
	for l := range 8 {
		r := New(make([]byte, l))
		if n := r.Eight(); n != 0 || !spent(r, api.ErrShort) {
			t.Errorf("%d bytes: %d, %d left, %d", l, n, r.Left(), r.End())
		}
		r = New(append(Eight(5), make([]byte, l)...))
		if n := r.Eight(); n != 5 || r.Left() != l || r.Eight() != 0 || !spent(r, api.ErrShort) {
			t.Errorf("%d bytes behind eight: %d, %d left, %d", l, n, r.Left(), r.End())
		}
	}
}

// P6.2: End with bytes left tells so, and takes nothing: what is left can be read.
func TestEndTakesNothing(t *testing.T) {
	r := New([]byte{5, 6, 64, 64})
	for _, want := range []uint64{5, 6, 64} {
		if r.End() != api.ErrLong || r.End() != api.ErrLong {
			t.Errorf("ahead of %d: %d", want, r.End())
		}
		if n := r.Num(want); n != want {
			t.Errorf("Num(%d): %d", want, n)
		}
	}
	if r.Left() != 0 || r.End() != api.OK {
		t.Errorf("%d left, %d", r.Left(), r.End())
	}
}

// P6.2: many moves on many bytes, held against a reader by the chapter's words alone.
func TestReaderPlainly(t *testing.T) {
	d := dice(65)
	for range 20000 {
		b := d.bytes(40)
		if d.next()>>9%2 == 0 {
			b = nil
			for range d.next() >> 9 % 6 {
				b = append(b, plainPut(d.wide()&Top)...)
			}
		}
		r := New(b)
		wrong := api.OK
		for range 8 {
			most := d.wide()
			if d.next()>>10%2 == 0 {
				most = math.MaxUint64
			}
			var got, want uint64
			if d.next()>>11%5 == 0 {
				got = r.Eight()
				if wrong == api.OK && len(b) < 8 {
					wrong = api.ErrShort
				} else if wrong == api.OK {
					for _, x := range b[:8] {
						want = want*256 + uint64(x)
					}
					b = b[8:]
				}
			} else {
				got = r.Num(most)
				n, size, e := plainTake(b)
				if e == api.OK && n > most {
					e = api.ErrBig
				}
				if wrong == api.OK && e == api.OK {
					want, b = n, b[size:]
				} else if wrong == api.OK {
					wrong = e
				}
			}
			if wrong != api.OK {
				b = nil
			}
			end := wrong
			if len(b) > 0 {
				end = api.ErrLong
			}
			if got != want || r.Left() != len(b) || r.End() != end {
				t.Fatalf("%d, not %d; %d left, not %d; %d, not %d", got, want, r.Left(), len(b), r.End(), end)
			}
		}
	}
}

// R3, P6.2: a reader keeps bytes of its own, and its answers are no part of them; arguments stay as they were.
func TestReaderShares(t *testing.T) {
	b := slices.Concat([]byte{1, 64, 64}, Eight(9), []byte{2}, make([]byte, 3, 20))
	kept := slices.Clone(b)
	r := New(b)
	for i := range b {
		b[i] = 255
	}
	_ = append(b[:0], "another text of many bytes"...)
	if r.Left() != len(kept) || r.Num(1) != 1 {
		t.Errorf("%d left", r.Left())
	}
	clear(b)
	if r.Num(64) != 64 || r.Eight() != 9 || r.Num(2) != 2 || r.Num(0) != 0 || r.Left() != 2 || r.End() != api.ErrLong {
		t.Errorf("%d left, %d", r.Left(), r.End())
	}
	copy(b, kept)
	r = New(b)
	r.Num(1)
	r.Num(1)
	r.Eight()
	Take(b)
	Mark(b)
	if !bytes.Equal(b, kept) {
		t.Errorf("bytes became %d", b)
	}
}

// R3, R5: two readers of the same bytes know nothing of each other.
func TestTwoReaders(t *testing.T) {
	b := []byte{1, 2, 64, 1}
	x, y := New(b), New(b)
	if x.Num(9) != 1 || x.Num(9) != 2 || x.Num(9) != 0 || !spent(x, api.ErrForm) {
		t.Errorf("%d left, %d", x.Left(), x.End())
	}
	if y.Left() != 4 || y.End() != api.ErrLong || y.Num(9) != 1 || y.Left() != 3 {
		t.Errorf("%d left, %d", y.Left(), y.End())
	}
}

// R3: bytes that Put or Eight answered may be changed: the next answers are as they were.
func TestAnswersShareNothing(t *testing.T) {
	for _, c := range edges {
		a, _ := Put(c.n)
		b, _ := Put(c.n)
		for i := range a {
			a[i] ^= 255
		}
		_ = append(a, 1, 2, 3)
		l, e := Put(c.n)
		if !bytes.Equal(b, c.b) || !bytes.Equal(l, c.b) || e != api.OK {
			t.Errorf("Put(%d): %d, %d, %d", c.n, b, l, e)
		}
		eight := Eight(c.n)
		want := slices.Clone(eight)
		other := Eight(c.n)
		clear(eight)
		_ = append(eight, 9)
		if !bytes.Equal(other, want) || !bytes.Equal(Eight(c.n), want) {
			t.Errorf("Eight(%d): %d, %d", c.n, other, Eight(c.n))
		}
	}
}
