package model

import (
	"fmt"
	"math"
	"math/big"
	"reflect"
	"slices"
	"strconv"
	"strings"
	"testing"

	"stratagem/api"
)

// dice tells numbers that look thrown, the same ones in each run.
type dice uint64

func (d *dice) next() uint64 {
	*d = *d*6364136223846793005 + 1442695040888963407
	return uint64(*d) ^ uint64(*d)>>29
}

func (d *dice) upTo(n int) int {
	return int(d.next() >> 8 % uint64(n))
}

// first are the so many numbers from 1 on, as spans.
func first(n int) []api.Span {
	return []api.Span{{Low: 1, High: n}}
}

// laid is a model of so many variables, a block each count, some of them All, without constraints; x0, x1 and so on.
func laid(counts ...int) api.Model {
	var m api.Model
	vars := 0
	for i, n := range counts {
		b := api.Block{All: i%2 == 1}
		for range n {
			b.Vars = append(b.Vars, api.Decl{Name: "x" + strconv.Itoa(vars), Dom: first(3)})
			vars++
		}
		m.Blocks = append(m.Blocks, b)
	}
	return m
}

// whole is a model that may be, with each kind of constraint, and more than one block and variable.
func whole() api.Model {
	return api.Model{
		Blocks: []api.Block{
			{Vars: []api.Decl{{Name: "x", Dom: first(4)}, {Name: "i", Dom: []api.Span{{Low: 0, High: 2}}}}, Where: []api.Con{
				{Kind: api.Linear, Vars: []int{0, 1}, Coefs: []int{2, -1}, Rel: api.LE, Const: 5},
				{Kind: api.Differ, Vars: []int{1, 0}},
			}},
			{All: true, Vars: []api.Decl{{Name: "y", Dom: []api.Span{{Low: -3, High: -2}, {Low: 5, High: 6}}}}, Where: []api.Con{
				{Kind: api.Iff, Vars: []int{1, 0, 2}, Coefs: []int{1, 7}, Rel: api.NE, Const: -9},
				{Kind: api.Table, Vars: []int{2, 0}, Nums: []int{5, 1, 6, 2}},
			}},
			{Vars: []api.Decl{{Name: "z", Dom: first(9)}}},
		},
		Goal: []api.Con{
			{Kind: api.Product, Vars: []int{0, 3, 2}},
			{Kind: api.Element, Vars: []int{1, 3}, Nums: []int{7, 8, 9}},
			{Kind: api.Table, Vars: []int{3}},
		},
	}
}

// short tells a thing as some words, however great it is.
func short(x any) string {
	s := fmt.Sprint(x)
	return s[:min(len(s), 300)]
}

// checks looks whether Check answers this of a model.
func checks(t *testing.T, want api.Errno, m api.Model) {
	t.Helper()
	if e := Check(m); e != want {
		t.Errorf("Check(%s): %d; want %d", short(m), e, want)
	}
}

// with is a model with a change; it may be whole's, or another one that is made anew.
func with(m api.Model, change func(m *api.Model)) api.Model {
	change(&m)
	return m
}

// P8.1: models that may be, and the chapter's example.
func TestCheck(t *testing.T) {
	checks(t, api.OK, whole())
	checks(t, api.OK, laid(1))
	checks(t, api.OK, laid(3))
	checks(t, api.OK, laid(1, 2, 1))
	checks(t, api.OK, with(laid(1), func(m *api.Model) {
		m.Blocks[0].All, m.Blocks[0].Where, m.Goal = true, []api.Con{}, []api.Con{}
	}))
	checks(t, api.ErrTwice, with(laid(2), func(m *api.Model) {
		m.Blocks[0].Vars[0].Name, m.Blocks[0].Vars[1].Name = "x", "x"
	}))
}

// P8.1: how many blocks, and how many variables, of one and of several blocks.
func TestCheckCounts(t *testing.T) {
	for n := range 20 {
		blocks, vars := api.OK, api.OK
		switch {
		case n == 0:
			blocks, vars = api.ErrForm, api.ErrForm
		case n > 16:
			blocks, vars = api.ErrBig, api.ErrBig
		case n > 8:
			blocks = api.ErrBig
		}
		checks(t, blocks, laid(slices.Repeat([]int{1}, n)...))
		checks(t, vars, laid(n))
	}
	checks(t, api.ErrForm, api.Model{})
	checks(t, api.ErrForm, api.Model{Blocks: []api.Block{}, Goal: []api.Con{}})
	checks(t, api.OK, laid(2, 2, 2, 2, 2, 2, 2, 2))
	checks(t, api.ErrBig, laid(2, 2, 2, 2, 2, 2, 2, 3))
	checks(t, api.ErrBig, laid(3, 2, 2, 2, 2, 2, 2, 2))
	checks(t, api.OK, laid(15, 1))
	checks(t, api.ErrBig, laid(16, 1))
	checks(t, api.ErrBig, laid(1, 16))
	checks(t, api.OK, laid(8, 8))
	checks(t, api.ErrBig, laid(9, 8))
}

// P8.1: blocks without a variable, in each place.
func TestCheckForm(t *testing.T) {
	for n := 1; n <= 8; n++ {
		for at := range n {
			counts := slices.Repeat([]int{1}, n)
			counts[at] = 0
			checks(t, api.ErrForm, laid(counts...))
			checks(t, api.ErrForm, with(laid(counts...), func(m *api.Model) { m.Blocks[at].Vars = []api.Decl{} }))
		}
	}
	checks(t, api.ErrForm, with(laid(16, 0), func(m *api.Model) { m.Blocks[0].Where = []api.Con{con(api.Differ, 8)} }))
	checks(t, api.ErrForm, api.Model{Goal: []api.Con{con(api.Linear, 1)}})
}

// P8.1: how many constraints of each block, and of the goal.
func TestCheckCons(t *testing.T) {
	for n := range 20 {
		want := api.OK
		if n > 16 {
			want = api.ErrBig
		}
		l := slices.Repeat([]api.Con{con(api.Linear, 1)}, n)
		checks(t, want, with(laid(1, 1, 1), func(m *api.Model) { m.Goal = l }))
		for at := range 3 {
			checks(t, want, with(laid(1, 1, 1), func(m *api.Model) { m.Blocks[at].Where = l }))
		}
		checks(t, want, with(laid(1, 1, 1), func(m *api.Model) {
			m.Goal, m.Blocks[0].Where, m.Blocks[1].Where, m.Blocks[2].Where = l, l, l, l
		}))
	}
}

// P8.1: names that may not be, and names that two variables have, in each place.
func TestCheckNames(t *testing.T) {
	for at := range 4 {
		for _, s := range append([]string{"", "1x", "_x", "X", "abcdefghijklm", "x y"}, words...) {
			checks(t, api.ErrName, with(laid(1, 2, 1), func(m *api.Model) { variable(m, at).Name = s }))
		}
		for _, s := range []string{"a", "abcdefghijkl", "q_", "ins", "x4", "x00"} {
			checks(t, api.OK, with(laid(1, 2, 1), func(m *api.Model) { variable(m, at).Name = s }))
		}
		for other := range at {
			checks(t, api.ErrTwice, with(laid(1, 2, 1), func(m *api.Model) { variable(m, at).Name = "x" + strconv.Itoa(other) }))
			checks(t, api.ErrName, with(laid(1, 2, 1), func(m *api.Model) { variable(m, at).Name, variable(m, other).Name = "in", "in" }))
		}
	}
}

// variable tells a model's variable, by its number.
func variable(m *api.Model, number int) *api.Decl {
	for _, b := range m.Blocks {
		if number < len(b.Vars) {
			return &b.Vars[number]
		}
		number -= len(b.Vars)
	}
	return nil
}

// P8.1: domains, in each place: right ones of 1 to 64 numbers, and others.
func TestCheckDom(t *testing.T) {
	type list = []api.Span
	for at := range 4 {
		for _, c := range []struct {
			dom list
			e   api.Errno
		}{
			{nil, api.ErrArg}, {list{}, api.ErrArg}, {first(1), 0}, {first(2), 0}, {first(63), 0}, {first(64), 0},
			{first(65), api.ErrArg}, {first(128), api.ErrArg}, {first(1 << 20), api.ErrArg},
			{list{{Low: -1 << 20, High: 1 << 20}}, api.ErrArg},
			{list{{Low: 1, High: 63}, {Low: 65, High: 65}}, 0}, {list{{Low: 1, High: 63}, {Low: 65, High: 66}}, api.ErrArg},
			{list{{Low: 1, High: 64}, {Low: 66, High: 66}}, api.ErrArg},
			{list{{Low: -1 << 20, High: -1 << 20}, {Low: 0, High: 61}, {Low: 1 << 20, High: 1 << 20}}, 0},
			{list{{Low: -1 << 20, High: -1 << 20}, {Low: 0, High: 62}, {Low: 1 << 20, High: 1 << 20}}, api.ErrArg},
			{list{{Low: 2, High: 1}}, api.ErrArg}, {list{{Low: 1, High: 2}, {Low: 3, High: 4}}, api.ErrArg},
			{list{{Low: 5, High: 6}, {Low: 1, High: 2}}, api.ErrArg}, {list{{Low: 1, High: 1}, {Low: 1, High: 1}}, api.ErrArg},
			{list{{Low: 1<<20 + 1, High: 1<<20 + 1}}, api.ErrArg}, {list{{Low: -1<<20 - 1, High: -1 << 20}}, api.ErrArg},
			{list{{Low: math.MinInt, High: math.MaxInt}}, api.ErrArg}, {list{{Low: math.MaxInt, High: math.MinInt}}, api.ErrArg},
		} {
			checks(t, c.e, with(laid(1, 2, 1), func(m *api.Model) { variable(m, at).Dom = c.dom }))
		}
	}
}

// P8.1: a constraint of a block is of the variables of that block and those ahead, one of the goal of all.
func TestCheckWhich(t *testing.T) {
	ends := []int{2, 3, 6}
	for v := -1; v <= 8; v++ {
		c := api.Con{Kind: api.Linear, Vars: []int{v}, Coefs: []int{1}}
		for at, end := range ends {
			want := api.OK
			if v < 0 || v >= end {
				want = api.ErrWrong
			}
			checks(t, want, with(laid(2, 1, 3), func(m *api.Model) { m.Blocks[at].Where = []api.Con{con(api.Linear, 1), c} }))
			checks(t, want, with(laid(2, 1, 3), func(m *api.Model) { m.Blocks[at].Where = []api.Con{c, con(api.Linear, 1)} }))
		}
		want := api.OK
		if v < 0 || v >= 6 {
			want = api.ErrWrong
		}
		checks(t, want, with(laid(2, 1, 3), func(m *api.Model) { m.Goal = []api.Con{con(api.Linear, 1), c} }))
	}
	// All of a constraint's variables are asked for, of each kind.
	for _, kind := range kinds {
		_, most := spread(kind)
		checks(t, api.OK, with(laid(1, most-1), func(m *api.Model) { m.Blocks[1].Where = []api.Con{con(kind, most)} }))
		checks(t, api.OK, with(laid(1, most-1), func(m *api.Model) { m.Goal = []api.Con{con(kind, most)} }))
		checks(t, api.ErrWrong, with(laid(most-1, 1), func(m *api.Model) { m.Blocks[0].Where = []api.Con{con(kind, most)} }))
		checks(t, api.ErrWrong, with(laid(1, most-1), func(m *api.Model) { m.Blocks[0].Where = []api.Con{con(kind, most)} }))
	}
}

// P8.1: constraints that may not be, in each list, at each place of it.
func TestCheckWrong(t *testing.T) {
	for _, wrong := range []api.Con{
		{}, {Kind: 7, Vars: []int{0}}, {Kind: api.Linear, Vars: []int{0}}, {Kind: api.Linear, Vars: []int{0}, Coefs: []int{0}},
		{Kind: api.Differ, Vars: []int{0, 0}}, {Kind: api.Differ, Vars: []int{0}}, {Kind: api.Product, Vars: []int{0, 1}},
		{Kind: api.Element, Vars: []int{0, 1}}, {Kind: api.Table, Vars: []int{0, 1}, Nums: []int{1}},
		{Kind: api.Iff, Vars: []int{0, 1}, Coefs: []int{1}, Const: 1<<40 + 1}, {Kind: api.Differ, Vars: []int{0, 1}, Rel: 1},
	} {
		for at := range 4 {
			for place := range 3 {
				l := []api.Con{con(api.Differ, 2), con(api.Linear, 1), con(api.Table, 2)}
				l[place] = wrong
				checks(t, api.ErrWrong, with(laid(2, 1, 1), func(m *api.Model) {
					if at == 3 {
						m.Goal = l
					} else {
						m.Blocks[at].Where = l
					}
				}))
			}
		}
	}
}

// spoil is an error, and a change of a model that brings it about, whatever the model has beside.
type spoil struct {
	name   string
	e      api.Errno
	change func(m *api.Model)
}

// spoils are changes for each of Check's errors, those of errors named first coming first.
func spoils() []spoil {
	nothing := con(api.Linear, 1)
	add := func(decls ...api.Decl) func(m *api.Model) {
		return func(m *api.Model) { m.Blocks = append(m.Blocks, api.Block{Vars: decls}) }
	}
	return []spoil{
		{"blocks", api.ErrBig, func(m *api.Model) {
			for len(m.Blocks) < 9 {
				m.Blocks = append(m.Blocks, api.Block{Vars: []api.Decl{{Name: "b" + strconv.Itoa(len(m.Blocks)), Dom: first(1)}}})
			}
		}},
		{"variables", api.ErrBig, func(m *api.Model) { m.Blocks = append(m.Blocks, laid(16).Blocks...) }},
		{"where", api.ErrBig, func(m *api.Model) {
			m.Blocks = append(m.Blocks, api.Block{Where: slices.Repeat([]api.Con{nothing}, 17), Vars: []api.Decl{{Name: "w", Dom: first(1)}}})
		}},
		{"goal", api.ErrBig, func(m *api.Model) { m.Goal = append(m.Goal, slices.Repeat([]api.Con{nothing}, 17)...) }},
		{"empty block", api.ErrForm, func(m *api.Model) { m.Blocks = append(m.Blocks, api.Block{}) }},
		{"empty block ahead", api.ErrForm, func(m *api.Model) { m.Blocks = slices.Insert(m.Blocks, 0, api.Block{All: true}) }},
		{"name", api.ErrName, add(api.Decl{Name: "Q", Dom: first(1)})},
		{"no name", api.ErrName, add(api.Decl{Dom: first(1)})},
		{"twice", api.ErrTwice, add(api.Decl{Name: "t", Dom: first(1)}, api.Decl{Name: "t", Dom: first(1)})},
		{"twice, apart", api.ErrTwice, add(api.Decl{Name: "x", Dom: first(1)})},
		{"no dom", api.ErrArg, add(api.Decl{Name: "n"})},
		{"big dom", api.ErrArg, add(api.Decl{Name: "o", Dom: first(65)})},
		{"odd dom", api.ErrArg, add(api.Decl{Name: "p", Dom: []api.Span{{Low: 2, High: 1}}})},
		{"wrong where", api.ErrWrong, func(m *api.Model) {
			m.Blocks = append(m.Blocks, api.Block{Where: []api.Con{{}}, Vars: []api.Decl{{Name: "v", Dom: first(1)}}})
		}},
		{"wrong goal", api.ErrWrong, func(m *api.Model) { m.Goal = append(m.Goal, api.Con{}) }},
		{"variable behind", api.ErrWrong, func(m *api.Model) {
			m.Blocks = slices.Insert(m.Blocks, 0, api.Block{Where: []api.Con{con(api.Differ, 2)}, Vars: []api.Decl{{Name: "k", Dom: first(1)}}})
		}},
	}
}

// P8.1, R2: each two of Check's errors in one model, brought about in either order: the one named first is told.
func TestCheckFirst(t *testing.T) {
	order := []api.Errno{api.ErrBig, api.ErrForm, api.ErrName, api.ErrTwice, api.ErrArg, api.ErrWrong}
	pairs := map[[2]api.Errno]bool{}
	for _, a := range spoils() {
		checks(t, a.e, with(whole(), a.change))
		for _, b := range spoils() {
			if b.name == a.name {
				continue
			}
			want := a.e
			if slices.Index(order, b.e) < slices.Index(order, a.e) {
				want = b.e
			}
			pairs[[2]api.Errno{a.e, b.e}] = true
			m := with(whole(), a.change)
			if e := Check(with(m, b.change)); e != want {
				t.Errorf("%s and %s: %d; want %d", a.name, b.name, e, want)
			}
		}
	}
	if len(pairs) != 36 {
		t.Errorf("%d pairs", len(pairs))
	}
	checks(t, api.ErrBig, api.Model{Goal: make([]api.Con, 17)})
	checks(t, api.ErrBig, api.Model{Blocks: make([]api.Block, 9)})
	checks(t, api.ErrForm, api.Model{Goal: make([]api.Con, 16)})
	checks(t, api.ErrForm, api.Model{Blocks: make([]api.Block, 8)})
}

// P8.1, R2: all of Check's errors in one model, and all but those named first.
func TestCheckAllAtOnce(t *testing.T) {
	var one []spoil
	for _, name := range []string{"goal", "empty block", "name", "twice", "no dom", "variable behind"} {
		l := spoils()
		one = append(one, l[slices.IndexFunc(l, func(s spoil) bool { return s.name == name })])
	}
	for i := range one {
		m, back := whole(), whole()
		for k := range one[i:] {
			one[i+k].change(&m)
			one[len(one)-1-k].change(&back)
		}
		checks(t, one[i].e, m)
		checks(t, one[i].e, back)
	}
	checks(t, api.OK, whole())
}

// R1: models of very many parts, and of the greatest and least numbers.
func TestCheckGreat(t *testing.T) {
	checks(t, api.ErrBig, api.Model{Blocks: make([]api.Block, 1<<20)})
	checks(t, api.ErrBig, api.Model{Goal: make([]api.Con, 1<<20)})
	checks(t, api.ErrBig, api.Model{Blocks: []api.Block{{Where: make([]api.Con, 1<<20)}}})
	checks(t, api.ErrBig, api.Model{Blocks: slices.Repeat([]api.Block{{Vars: make([]api.Decl, 1<<20)}}, 8)})
	checks(t, api.ErrName, with(laid(1), func(m *api.Model) { m.Blocks[0].Vars[0].Name = strings.Repeat("a", 1<<24) }))
	checks(t, api.ErrArg, with(laid(1), func(m *api.Model) { m.Blocks[0].Vars[0].Dom = make([]api.Span, 1<<20) }))
	var odd []api.Span
	for v := range 1 << 20 {
		odd = append(odd, api.Span{Low: 2*v - 1<<20, High: 2*v - 1<<20})
	}
	checks(t, api.ErrArg, with(laid(1), func(m *api.Model) { m.Blocks[0].Vars[0].Dom = odd }))
	many := rising(1 << 20)
	checks(t, api.ErrWrong, with(laid(1), func(m *api.Model) {
		m.Goal = []api.Con{{Kind: api.Linear, Vars: many, Coefs: many, Nums: many, Rel: math.MinInt, Const: math.MaxInt}}
	}))
}

// P8.2: all variables, in order, and how many stand up to each block's end.
func TestVarsAndEnds(t *testing.T) {
	m := whole()
	want := []api.Decl{
		{Name: "x", Dom: []api.Span{{Low: 1, High: 4}}}, {Name: "i", Dom: []api.Span{{Low: 0, High: 2}}},
		{Name: "y", Dom: []api.Span{{Low: -3, High: -2}, {Low: 5, High: 6}}}, {Name: "z", Dom: []api.Span{{Low: 1, High: 9}}},
	}
	if l := Vars(m); !slices.EqualFunc(l, want, sameDecl) {
		t.Errorf("Vars: %v", l)
	}
	for _, c := range []struct {
		m    api.Model
		ends []int
	}{
		{m, []int{2, 3, 4}}, {laid(1), []int{1}}, {laid(16), []int{16}}, {laid(2, 1, 3), []int{2, 3, 6}},
		{laid(1, 1, 1, 1, 1, 1, 1, 1), []int{1, 2, 3, 4, 5, 6, 7, 8}},
		// Of models that may not be, too.
		{laid(0), []int{0}}, {laid(0, 2, 0, 1), []int{0, 2, 2, 3}}, {laid(9, 9), []int{9, 18}},
		{laid(1, 1, 1, 1, 1, 1, 1, 1, 1, 1), []int{1, 2, 3, 4, 5, 6, 7, 8, 9, 10}},
	} {
		if l := Ends(c.m); !slices.Equal(l, c.ends) {
			t.Errorf("Ends: %v; want %v", l, c.ends)
		}
		var names []string
		for _, d := range Vars(c.m) {
			names = append(names, d.Name)
		}
		for i, name := range names {
			if name != variable(&c.m, i).Name {
				t.Errorf("Vars: %v", names)
			}
		}
		if len(names) != c.ends[len(c.ends)-1] {
			t.Errorf("Vars: %v; want %d", names, c.ends[len(c.ends)-1])
		}
	}
}

// P8.2: of a model of no block there are none of both, whatever its goal is.
func TestVarsAndEndsOfNothing(t *testing.T) {
	for _, m := range []api.Model{{}, {Blocks: []api.Block{}}, {Goal: []api.Con{con(api.Linear, 1)}}} {
		if l, ends := Vars(m), Ends(m); len(l) != 0 || len(ends) != 0 {
			t.Errorf("%v: %v, %v", m, l, ends)
		}
	}
	odd := api.Model{Blocks: []api.Block{{Vars: []api.Decl{{}, {Name: "X"}}}, {}}}
	if l := Vars(odd); len(l) != 2 || l[0].Name != "" || l[1].Name != "X" || len(l[0].Dom) != 0 {
		t.Errorf("Vars: %v", l)
	}
}

// changes are of a model like whole, each of just one part of it.
func changes() map[string]func(m *api.Model) {
	return map[string]func(m *api.Model){
		"fewer blocks":        func(m *api.Model) { m.Blocks = m.Blocks[:2] },
		"no blocks":           func(m *api.Model) { m.Blocks = nil },
		"more blocks":         func(m *api.Model) { m.Blocks = append(m.Blocks, api.Block{}) },
		"blocks' order":       func(m *api.Model) { m.Blocks[0], m.Blocks[2] = m.Blocks[2], m.Blocks[0] },
		"All":                 func(m *api.Model) { m.Blocks[0].All = true },
		"not All":             func(m *api.Model) { m.Blocks[1].All = false },
		"All of the last":     func(m *api.Model) { m.Blocks[2].All = true },
		"fewer variables":     func(m *api.Model) { m.Blocks[0].Vars = m.Blocks[0].Vars[:1] },
		"no variables":        func(m *api.Model) { m.Blocks[2].Vars = nil },
		"more variables":      func(m *api.Model) { m.Blocks[2].Vars = append(m.Blocks[2].Vars, api.Decl{}) },
		"variables' order":    func(m *api.Model) { slices.Reverse(m.Blocks[0].Vars) },
		"Name":                func(m *api.Model) { m.Blocks[0].Vars[1].Name = "I" },
		"no Name":             func(m *api.Model) { m.Blocks[2].Vars[0].Name = "" },
		"Low":                 func(m *api.Model) { m.Blocks[1].Vars[0].Dom[1].Low = 6 },
		"High":                func(m *api.Model) { m.Blocks[1].Vars[0].Dom[0].High = -3 },
		"fewer spans":         func(m *api.Model) { m.Blocks[1].Vars[0].Dom = m.Blocks[1].Vars[0].Dom[:1] },
		"no spans":            func(m *api.Model) { m.Blocks[2].Vars[0].Dom = nil },
		"more spans":          func(m *api.Model) { m.Blocks[2].Vars[0].Dom = append(first(9), api.Span{Low: 11, High: 11}) },
		"a span as two":       func(m *api.Model) { m.Blocks[2].Vars[0].Dom = []api.Span{{Low: 1, High: 4}, {Low: 5, High: 9}} },
		"fewer of Where":      func(m *api.Model) { m.Blocks[1].Where = m.Blocks[1].Where[:1] },
		"no Where":            func(m *api.Model) { m.Blocks[0].Where = nil },
		"more of Where":       func(m *api.Model) { m.Blocks[2].Where = append(m.Blocks[2].Where, api.Con{}) },
		"Where's order":       func(m *api.Model) { slices.Reverse(m.Blocks[0].Where) },
		"Where of another":    func(m *api.Model) { m.Blocks[2].Where, m.Blocks[1].Where = m.Blocks[1].Where, nil },
		"fewer of the goal":   func(m *api.Model) { m.Goal = m.Goal[:2] },
		"no goal":             func(m *api.Model) { m.Goal = nil },
		"more of the goal":    func(m *api.Model) { m.Goal = append(m.Goal, api.Con{}) },
		"the goal's order":    func(m *api.Model) { slices.Reverse(m.Goal) },
		"Kind":                func(m *api.Model) { m.Goal[2].Kind = api.Linear },
		"Kind in Where":       func(m *api.Model) { m.Blocks[0].Where[1].Kind = api.Table },
		"Vars":                func(m *api.Model) { m.Goal[0].Vars[2] = 1 },
		"Vars in Where":       func(m *api.Model) { m.Blocks[1].Where[0].Vars[0] = 3 },
		"fewer Vars":          func(m *api.Model) { m.Goal[0].Vars = m.Goal[0].Vars[:2] },
		"no Vars":             func(m *api.Model) { m.Goal[2].Vars = nil },
		"Vars' order":         func(m *api.Model) { slices.Reverse(m.Blocks[0].Where[1].Vars) },
		"Coefs":               func(m *api.Model) { m.Blocks[0].Where[0].Coefs[1] = 1 },
		"fewer Coefs":         func(m *api.Model) { m.Blocks[0].Where[0].Coefs = []int{2} },
		"no Coefs":            func(m *api.Model) { m.Blocks[0].Where[0].Coefs = nil },
		"more Coefs":          func(m *api.Model) { m.Goal[0].Coefs = []int{0} },
		"Rel":                 func(m *api.Model) { m.Blocks[0].Where[0].Rel = api.LT },
		"Rel in the goal":     func(m *api.Model) { m.Goal[0].Rel = api.NE },
		"Const":               func(m *api.Model) { m.Blocks[1].Where[0].Const = 9 },
		"Const in the goal":   func(m *api.Model) { m.Goal[1].Const = math.MinInt },
		"Nums":                func(m *api.Model) { m.Goal[1].Nums[2] = 8 },
		"Nums in Where":       func(m *api.Model) { m.Blocks[1].Where[1].Nums[0] = -5 },
		"fewer Nums":          func(m *api.Model) { m.Goal[1].Nums = m.Goal[1].Nums[:2] },
		"no Nums":             func(m *api.Model) { m.Blocks[1].Where[1].Nums = nil },
		"more Nums":           func(m *api.Model) { m.Goal[2].Nums = []int{0} },
		"Nums for Coefs":      func(m *api.Model) { m.Goal[1].Coefs, m.Goal[1].Nums = m.Goal[1].Nums, nil },
		"goal for Where":      func(m *api.Model) { m.Blocks[2].Where, m.Goal = m.Goal, nil },
		"a block's last part": func(m *api.Model) { m.Blocks[1].Where[1].Nums[3] = 0 },
	}
}

// P8.2: models that differ in one part alone aren't the same; a copy is.
func TestSame(t *testing.T) {
	if !Same(whole(), whole()) || !Same(api.Model{}, api.Model{}) || Same(whole(), api.Model{}) || Same(api.Model{}, whole()) {
		t.Error("Same")
	}
	for a, change := range changes() {
		m := with(whole(), change)
		if Same(m, whole()) || Same(whole(), m) {
			t.Errorf("%s: the same", a)
		}
		if again := with(whole(), change); !Same(m, again) || !Same(m, m) {
			t.Errorf("%s: not the same", a)
		}
		for b, other := range changes() {
			if a != b && Same(m, with(whole(), other)) {
				t.Errorf("%s and %s: the same", a, b)
			}
		}
	}
}

// P8.2, R6: a list that is missing is the same as an empty one, wherever one stands.
func TestSameEmpty(t *testing.T) {
	deep := func(d []api.Decl, s []api.Span, n []int, c []api.Con) api.Model {
		decls := []api.Decl{{Name: "x", Dom: s}}
		if d != nil {
			decls = append(decls, d...)
		}
		cons := []api.Con{{Kind: 1, Vars: n, Coefs: n, Nums: n}}
		return api.Model{Blocks: []api.Block{{Vars: decls, Where: c}, {Vars: d, Where: cons}, {Where: cons}}, Goal: cons}
	}
	a, b := deep(nil, nil, nil, nil), deep([]api.Decl{}, []api.Span{}, []int{}, []api.Con{})
	if !Same(a, b) || !Same(b, a) {
		t.Error("missing lists, and empty ones")
	}
	for _, c := range []api.Model{{Blocks: []api.Block{}}, {Goal: []api.Con{}}, {Blocks: []api.Block{}, Goal: []api.Con{}}} {
		if !Same(c, api.Model{}) || !Same(api.Model{}, c) || Same(a, c) {
			t.Errorf("%v", c)
		}
	}
	if Same(api.Model{Blocks: []api.Block{{}}}, api.Model{}) || Same(api.Model{Goal: []api.Con{{}}}, api.Model{}) {
		t.Error("a block, or a constraint, of nothing")
	}
}

// sized is a model that may be, of variables of so many numbers each, laid over several blocks.
func sized(sizes ...int) api.Model {
	m := laid(len(sizes))
	if len(sizes) > 2 {
		m = laid(1, len(sizes)-2, 1)
	}
	for i, n := range sizes {
		variable(&m, i).Dom = first(n)
		if n > 1 {
			// With a gap, so that a domain's ends alone don't tell how many numbers it has.
			variable(&m, i).Dom = []api.Span{{Low: -9, High: -9}, {Low: 1, High: n - 1}}
		}
	}
	return m
}

// P8.2: Nodes, written out.
func TestNodes(t *testing.T) {
	for _, c := range []struct {
		m     api.Model
		nodes int
	}{
		{whole(), 2 * 5 * 4 * 5 * 10}, {laid(1), 8}, {laid(1, 1), 32}, {laid(2), 32}, {sized(1), 4}, {sized(64), 130}, {sized(1, 64), 260},
		{sized(2, 3, 4), 120}, {sized(slices.Repeat([]int{1}, 16)...), 1 << 17},
		{with(whole(), func(m *api.Model) { m.Goal, m.Blocks[0].Where, m.Blocks[1].Where = nil, nil, nil }), 2000},
		// Nothing, of a model that may not be.
		{api.Model{}, 0}, {laid(1, 0), 0}, {laid(17), 0}, {laid(1, 1, 1, 1, 1, 1, 1, 1, 1), 0}, {sized(65), 0},
	} {
		if n := Nodes(c.m); n != c.nodes {
			t.Errorf("Nodes(%v): %d; want %d", c.m, n, c.nodes)
		}
	}
	for _, s := range spoils() {
		if n := Nodes(with(whole(), s.change)); n != 0 {
			t.Errorf("%s: %d", s.name, n)
		}
	}
}

// P8.2: Nodes at the greatest number, next to it, and far beyond.
func TestNodesMost(t *testing.T) {
	all := func(times, size int, more ...int) []int { return append(slices.Repeat([]int{size}, times), more...) }
	for _, c := range []struct {
		sizes []int
		nodes int
	}{
		{all(10, 63, 1), 1 << 62},
		{all(10, 63, 2), 3 << 61},
		// 2^63, one more than there is.
		{all(10, 63, 3), math.MaxInt},
		{all(10, 63, 1, 1), math.MaxInt},
		{all(12, 31, 3), math.MaxInt},
		{all(12, 31, 2), 3 << 61},
		// The product is 2^62 less 11229117904, and 2^62 and 3975692288.
		{[]int{18, 36, 45, 48, 54, 57, 58, 59, 60, 64, 64}, 9223372014396540000},
		{[]int{36, 43, 43, 45, 46, 50, 51, 53, 56, 56, 63}, math.MaxInt},
		// What is kept of a product of 64 bits is 0, or little, or below 0.
		{all(16, 63), math.MaxInt}, {all(16, 64), math.MaxInt}, {all(16, 15), math.MaxInt}, {all(16, 47), math.MaxInt},
		{all(11, 63), math.MaxInt}, {all(10, 64), 2692548668925781250}, {all(11, 64), math.MaxInt}, {all(15, 63, 1), math.MaxInt},
		{append(all(15, 64), 1), math.MaxInt}, {append([]int{1}, all(15, 64)...), math.MaxInt},
	} {
		if n := Nodes(sized(c.sizes...)); n != c.nodes {
			t.Errorf("Nodes of %v: %d; want %d", c.sizes, n, c.nodes)
		}
	}
}

// P8.2: Nodes of thrown models is what numbers without end have it to be.
func TestNodesThrown(t *testing.T) {
	d := dice(5)
	most := big.NewInt(math.MaxInt64)
	beyond := 0
	for range 20000 {
		want := big.NewInt(2)
		var sizes []int
		for range d.upTo(16) + 1 {
			n := d.upTo(64) + 1
			if d.upTo(3) == 0 {
				n = d.upTo(4) + 1
			}
			sizes = append(sizes, n)
			want.Mul(want, big.NewInt(int64(n+1)))
		}
		if want.Cmp(most) > 0 {
			want = most
			beyond++
		}
		if n := Nodes(sized(sizes...)); int64(n) != want.Int64() {
			t.Fatalf("Nodes of %v: %d; want %d", sizes, n, want)
		}
	}
	if beyond < 500 || beyond > 19500 {
		t.Errorf("%d of 20000 are too many", beyond)
	}
}

// thrown is a model that may be, of blocks, variables and constraints that look thrown.
func thrown(d *dice) api.Model {
	var counts []int
	for range d.upTo(8) + 1 {
		counts = append(counts, d.upTo(2)+1)
	}
	m := laid(counts...)
	for i := range decls(m) {
		variable(&m, i).Dom = first(d.upTo(64) + 1)
	}
	list := func(vars int) []api.Con {
		var l []api.Con
		for range d.upTo(17) {
			kind := d.upTo(6) + 1
			least, most := spread(kind)
			if n := least + d.upTo(most-least+1); n <= vars {
				l = append(l, con(kind, n))
			}
		}
		return l
	}
	for i, end := range Ends(m) {
		m.Blocks[i].Where = list(end)
	}
	m.Goal = list(len(decls(m)))
	return m
}

// P8.3: a model may be without its last constraints, one by one, till there are none.
func TestWithoutLast(t *testing.T) {
	d := dice(1)
	for range 300 {
		m := thrown(&d)
		checks(t, api.OK, m)
		for len(m.Goal) > 0 {
			m.Goal = m.Goal[:len(m.Goal)-1]
			checks(t, api.OK, m)
		}
		for i := range m.Blocks {
			b := &m.Blocks[len(m.Blocks)-1-i]
			for len(b.Where) > 0 {
				b.Where = b.Where[:len(b.Where)-1]
				checks(t, api.OK, m)
			}
		}
	}
}

// P8.3: a model may be, of which a name is another one that may be and that no variable has; and just then.
func TestRenamed(t *testing.T) {
	d := dice(2)
	for range 300 {
		m := thrown(&d)
		for i, x := range Vars(m) {
			for _, s := range []string{"a", "y" + x.Name, x.Name, "x17", "abcdefghijkl", "tables", "x_0"} {
				variable(&m, i).Name = s
				checks(t, api.OK, m)
			}
			variable(&m, i).Name = "true"
			checks(t, api.ErrName, m)
			variable(&m, i).Name = x.Name
			checks(t, api.OK, m)
		}
		if l := Vars(m); len(l) > 1 {
			m.Blocks[0].Vars[0].Name = l[len(l)-1].Name
			checks(t, api.ErrTwice, m)
		}
	}
}

// R3: what Vars and Ends answer shares nothing with the model, nor with what they answer next.
func TestShares(t *testing.T) {
	m := whole()
	l, ends := Vars(m), Ends(m)
	for i := range l {
		l[i].Name = "gone"
		for k := range l[i].Dom {
			l[i].Dom[k] = api.Span{Low: 99, High: -99}
		}
		// What stands behind a list's end is nobody else's.
		_ = append(l[i].Dom, api.Span{Low: 77, High: -77})
	}
	for i := range ends {
		ends[i] = -1
	}
	if !reflect.DeepEqual(m, whole()) {
		t.Errorf("%v", m)
	}
	if !slices.EqualFunc(Vars(m), Vars(whole()), sameDecl) || !slices.Equal(Ends(m), []int{2, 3, 4}) {
		t.Errorf("%v, %v", Vars(m), Ends(m))
	}
	one := []api.Span{{Low: 1, High: 2}}
	m = api.Model{Blocks: []api.Block{{Vars: []api.Decl{{Name: "x", Dom: one}, {Name: "y", Dom: one}}}}}
	l = Vars(m)
	l[0].Dom[0].Low = 5
	if l[1].Dom[0].Low != 1 || one[0].Low != 1 {
		t.Error("two lists of one answer share")
	}
}

// R3: no call changes a model, nor what stands behind the ends of its lists.
func TestLeavesModels(t *testing.T) {
	decls := make([]api.Decl, 2, 9)
	decls[0], decls[1] = api.Decl{Name: "x", Dom: first(2)}, api.Decl{Name: "y", Dom: first(3)}
	m := whole()
	m.Blocks = slices.Insert(m.Blocks, 0, api.Block{Vars: decls[:1:9]})
	for _, m := range []api.Model{m, whole(), {}, laid(17), laid(0, 1)} {
		was := with(api.Model{}, func(c *api.Model) { *c = copied(m) })
		Check(m)
		Vars(m)
		Ends(m)
		Nodes(m)
		Same(m, whole())
		Same(whole(), m)
		for _, c := range m.Goal {
			Right(c, 4)
		}
		if !reflect.DeepEqual(m, was) {
			t.Errorf("%v", m)
		}
	}
	if decls[1].Name != "y" || decls[:9][2].Name != "" {
		t.Errorf("%v", decls[:9])
	}
}

// copied is a model like another one, that shares nothing with it.
func copied(m api.Model) api.Model {
	cons := func(l []api.Con) []api.Con {
		l = slices.Clone(l)
		for i, c := range l {
			l[i].Vars, l[i].Coefs, l[i].Nums = slices.Clone(c.Vars), slices.Clone(c.Coefs), slices.Clone(c.Nums)
		}
		return l
	}
	m.Blocks, m.Goal = slices.Clone(m.Blocks), cons(m.Goal)
	for i, b := range m.Blocks {
		m.Blocks[i].Where, m.Blocks[i].Vars = cons(b.Where), slices.Clone(b.Vars)
		for k, v := range b.Vars {
			m.Blocks[i].Vars[k].Dom = slices.Clone(v.Dom)
		}
	}
	return m
}
