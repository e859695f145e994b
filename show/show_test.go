package show

import (
	"fmt"
	"math"
	"reflect"
	"slices"
	"strings"
	"testing"
	"unsafe"

	"stratagem/api"
	"stratagem/model"
	"stratagem/parse"
)

// tells looks whether this is a model's text, byte for byte, and whether the model comes back from it.
func tells(t *testing.T, m api.Model, want string) {
	t.Helper()
	text, e := Text(m)
	if text != want || e != api.OK {
		t.Errorf("Text: %q, %d; want %q", text, e, want)
	}
	back, at, e := parse.Parse(text)
	if !model.Same(back, m) || at != 0 || e != api.OK {
		t.Errorf("of %q comes back %v, %d, %d; want %v", text, back, at, e, m)
	}
}

// refuses looks whether a model is told as wrong by Text, and by Con whatever the constraint is, with no text beside.
func refuses(t *testing.T, what string, m api.Model, wrong api.Errno) {
	t.Helper()
	if text, e := Text(m); text != "" || e != wrong {
		t.Errorf("Text of %s: %.200q, %d; want %d", what, text, e, wrong)
	}
	for _, c := range []api.Con{{}, {Kind: api.Linear, Vars: []int{0}, Coefs: []int{1}}, {Kind: api.Table, Vars: []int{99}}, {Kind: 7, Vars: []int{-1}}} {
		if text, e := Con(m, c); text != "" || e != wrong {
			t.Errorf("Con of %s, %v: %.200q, %d; want %d", what, c, text, e, wrong)
		}
	}
}

// to is one span.
func to(low, high int) []api.Span {
	return []api.Span{{Low: low, High: high}}
}

// sum is a Linear constraint.
func sum(vars, coefs []int, rel, number int) api.Con {
	return api.Con{Kind: api.Linear, Vars: vars, Coefs: coefs, Rel: rel, Const: number}
}

// single is a model of one block, that has one variable, with this Where and goal.
func single(where, goal []api.Con) api.Model {
	return api.Model{Blocks: []api.Block{{Vars: []api.Decl{{Name: "x", Dom: to(0, 1)}}, Where: where}}, Goal: goal}
}

// nine is a model of two blocks, of four variables and five, which are a to i.
func nine() api.Model {
	m := api.Model{Blocks: []api.Block{{All: true}, {}}}
	for i := range 9 {
		b := &m.Blocks[i/4-i/8]
		b.Vars = append(b.Vars, api.Decl{Name: "abcdefghi"[i : i+1], Dom: to(0, 9)})
	}
	return m
}

// lines are the lines of a model's text: each with its line end.
func lines(l ...string) string {
	return strings.Join(l, "\n") + "\n"
}

// P10.1: the chapter's example.
func TestExample(t *testing.T) {
	tells(t, api.Model{
		Blocks: []api.Block{
			{All: true, Vars: []api.Decl{{Name: "y", Dom: to(0, 1)}}},
			{Vars: []api.Decl{{Name: "x", Dom: to(0, 1)}}},
		},
		Goal: []api.Con{sum([]int{0, 1}, []int{1, -2}, api.LE, -3)},
	}, "forall y in 0 .. 1 ;\nexists x in 0 .. 1 ;\ngoal y - 2 * x <= - 3 ;\n")
}

// P10.1: blocks of both kinds, one and several, with a Where and without, of one variable and of several; the goal
// empty and not. Each `;` has a line end behind it, and no space, the last one, too, and nothing stands behind that.
func TestBlocks(t *testing.T) {
	one := []api.Con{sum([]int{0}, []int{1}, api.EQ, 1)}
	two := []api.Con{sum([]int{0}, []int{1}, api.GT, 0), sum([]int{0}, []int{-1}, api.LT, 0)}
	three := slices.Concat(two, one)
	tells(t, single(nil, nil), "exists x in 0 .. 1 ;\ngoal true ;\n")
	tells(t, single([]api.Con{}, []api.Con{}), "exists x in 0 .. 1 ;\ngoal true ;\n")
	tells(t, single(nil, one), "exists x in 0 .. 1 ;\ngoal x = 1 ;\n")
	tells(t, single(one, nil), "exists x in 0 .. 1 where x = 1 ;\ngoal true ;\n")
	tells(t, single(one, two), "exists x in 0 .. 1 where x = 1 ;\ngoal x > 0 and - x < 0 ;\n")
	tells(t, single(two, one), "exists x in 0 .. 1 where x > 0 and - x < 0 ;\ngoal x = 1 ;\n")
	tells(t, single(three, three), "exists x in 0 .. 1 where x > 0 and - x < 0 and x = 1 ;\ngoal x > 0 and - x < 0 and x = 1 ;\n")
	all := single(one, nil)
	all.Blocks[0].All = true
	tells(t, all, "forall x in 0 .. 1 where x = 1 ;\ngoal true ;\n")
	tells(t, api.Model{
		Blocks: []api.Block{
			{Vars: []api.Decl{{Name: "a", Dom: to(0, 0)}, {Name: "b", Dom: to(1, 2)}}},
			{All: true, Vars: []api.Decl{{Name: "c_", Dom: to(3, 3)}}},
			{All: true, Vars: []api.Decl{{Name: "d0", Dom: to(4, 4)}, {Name: "goals", Dom: to(5, 5)}, {Name: "abcdefghijkl", Dom: to(6, 6)}},
				Where: []api.Con{{Kind: api.Differ, Vars: []int{5, 0, 3}}}},
			{Vars: []api.Decl{{Name: "e", Dom: to(7, 7)}}, Where: []api.Con{{Kind: api.Differ, Vars: []int{0, 6}}, sum([]int{1}, []int{1}, api.EQ, 1)}},
		},
		Goal: []api.Con{{Kind: api.Differ, Vars: []int{6, 5, 4, 0}}},
	}, lines(
		"exists a in 0 , b in 1 .. 2 ;",
		"forall c_ in 3 ;",
		"forall d0 in 4 , goals in 5 , abcdefghijkl in 6 where different abcdefghijkl a d0 ;",
		"exists e in 7 where different a e and b = 1 ;",
		"goal different e abcdefghijkl goals a ;",
	))
}

// P10.1: as many blocks, variables, and constraints of a list, as may be.
func TestMany(t *testing.T) {
	var blocks, vars api.Model
	text, row := "", "forall v0 in 0"
	vars.Blocks = []api.Block{{All: true}}
	for i := range api.MostBlocks {
		name := "b" + fmt.Sprint(i)
		blocks.Blocks = append(blocks.Blocks, api.Block{All: i%3 == 0, Vars: []api.Decl{{Name: name, Dom: to(i, i+1)}}})
		text += fmt.Sprintf("%s %s in %d .. %d ;\n", []string{"forall", "exists", "exists"}[i%3], name, i, i+1)
		tells(t, blocks, text+"goal true ;\n")
	}
	for i := range api.MostVars {
		if i > 0 {
			row += fmt.Sprintf(" , v%d in %d", i, i)
		}
		vars.Blocks[0].Vars = append(vars.Blocks[0].Vars, api.Decl{Name: "v" + fmt.Sprint(i), Dom: to(i, i)})
		tells(t, vars, row+" ;\ngoal true ;\n")
	}
	for n := 1; n <= api.MostCons; n++ {
		l := slices.Repeat([]api.Con{sum([]int{0}, []int{1}, api.NE, n)}, n)
		list := strings.Join(slices.Repeat([]string{"x != " + fmt.Sprint(n)}, n), " and ")
		tells(t, single(l, nil), "exists x in 0 .. 1 where "+list+" ;\ngoal true ;\n")
		tells(t, single(nil, l), "exists x in 0 .. 1 ;\ngoal "+list+" ;\n")
	}
}

// P10.1: ranges of one number and of two, below 0, and several of one variable.
func TestRanges(t *testing.T) {
	type list = []api.Span
	var odd list
	tokens := ""
	for v := -63; v <= 63; v += 2 {
		odd = append(odd, api.Span{Low: v, High: v})
		tokens += strings.Replace(fmt.Sprintf(" %d", v), "-", "- ", 1)
	}
	for _, c := range []struct {
		dom  list
		text string
	}{
		{list{{Low: 0, High: 0}}, "0"}, {list{{Low: 7, High: 7}}, "7"}, {list{{Low: -7, High: -7}}, "- 7"}, {list{{Low: 10, High: 10}}, "10"},
		{list{{Low: 0, High: 1}}, "0 .. 1"}, {list{{Low: 0, High: 63}}, "0 .. 63"}, {list{{Low: -3, High: 3}}, "- 3 .. 3"}, {list{{Low: -1, High: 0}}, "- 1 .. 0"},
		{list{{Low: -9, High: -8}}, "- 9 .. - 8"}, {list{{Low: -64, High: -1}}, "- 64 .. - 1"}, {list{{Low: 1 << 20, High: 1 << 20}}, "1048576"},
		{list{{Low: -1 << 20, High: -1 << 20}}, "- 1048576"}, {list{{Low: -1 << 20, High: -1048570}}, "- 1048576 .. - 1048570"},
		{list{{Low: 1, High: 1}, {Low: 3, High: 3}}, "1 3"}, {list{{Low: -3, High: -3}, {Low: -1, High: -1}}, "- 3 - 1"}, {list{{Low: 1, High: 1}, {Low: 3, High: 4}}, "1 3 .. 4"},
		{list{{Low: 1, High: 2}, {Low: 4, High: 4}}, "1 .. 2 4"}, {list{{Low: -5, High: -3}, {Low: -1, High: 2}, {Low: 9, High: 9}}, "- 5 .. - 3 - 1 .. 2 9"},
		{list{{Low: -3, High: -2}, {Low: 5, High: 5}, {Low: 7, High: 9}}, "- 3 .. - 2 5 7 .. 9"}, {odd, tokens[1:]},
	} {
		m := single(nil, nil)
		m.Blocks[0].Vars[0].Dom = c.dom
		tells(t, m, "exists x in "+c.text+" ;\ngoal true ;\n")
		m.Blocks[0].Vars = append(m.Blocks[0].Vars, api.Decl{Name: "y", Dom: c.dom})
		tells(t, m, "exists x in "+c.text+" , y in "+c.text+" ;\ngoal true ;\n")
		m.Blocks[0].Where = []api.Con{{Kind: api.Differ, Vars: []int{1, 0}}}
		tells(t, m, "exists x in "+c.text+" , y in "+c.text+" where different y x ;\ngoal true ;\n")
	}
}

// says looks whether these are a constraint's tokens, alone, as a goal and as a Where, of the variables a to i.
func says(t *testing.T, c api.Con, want string) {
	t.Helper()
	m := nine()
	if text, e := Con(m, c); text != want || e != api.OK {
		t.Errorf("Con of %v: %q, %d; want %q", c, text, e, want)
	}
	blocks := strings.SplitAfter(hand{}.text(m), "\n")
	m.Goal = []api.Con{c}
	tells(t, m, blocks[0]+blocks[1]+"goal "+want+" ;\n")
	m.Blocks[1].Where = []api.Con{c}
	tells(t, m, blocks[0]+strings.TrimSuffix(blocks[1], " ;\n")+" where "+want+" ;\ngoal "+want+" ;\n")
	m.Goal = []api.Con{c, {Kind: api.Differ, Vars: []int{8, 7}}, c}
	m.Blocks[1].Where = nil
	tells(t, m, blocks[0]+blocks[1]+"goal "+want+" and different i h and "+want+" ;\n")
}

// P10.1: each kind of constraint, with the fewest names and numbers that it may have, and with more.
func TestKinds(t *testing.T) {
	rising := []int{0, 1, 2, 3, 4, 5, 6, 7, 8}
	ones := slices.Repeat([]int{1}, 8)
	for _, c := range []struct {
		con  api.Con
		text string
	}{
		{sum([]int{0}, []int{1}, api.EQ, 0), "a = 0"},
		{sum([]int{8, 0}, []int{1, 1}, api.EQ, 0), "i + a = 0"},
		{sum(rising[:8], ones, api.EQ, 8), "a + b + c + d + e + f + g + h = 8"},
		{api.Con{Kind: api.Product, Vars: []int{0, 1, 2}}, "product a b c"},
		{api.Con{Kind: api.Product, Vars: []int{8, 2, 0}}, "product i c a"},
		{api.Con{Kind: api.Iff, Vars: []int{0, 1}, Coefs: []int{1}}, "iff a b = 0"},
		{api.Con{Kind: api.Iff, Vars: []int{8, 1, 0}, Coefs: []int{1, 1}, Const: 7}, "iff i b + a = 7"},
		{api.Con{Kind: api.Iff, Vars: rising, Coefs: ones, Rel: api.GE, Const: 1}, "iff a b + c + d + e + f + g + h + i >= 1"},
		{api.Con{Kind: api.Element, Vars: []int{0, 1}, Nums: []int{5}}, "element a b [ 5 ]"},
		{api.Con{Kind: api.Element, Vars: []int{8, 1}, Nums: []int{-5}}, "element i b [ - 5 ]"},
		{api.Con{Kind: api.Element, Vars: []int{1, 0}, Nums: []int{7, -8, 0, 0, 1 << 20, -1 << 20}}, "element b a [ 7 - 8 0 0 1048576 - 1048576 ]"},
		{api.Con{Kind: api.Element, Vars: []int{1, 0}, Nums: slices.Repeat([]int{3}, 96)}, "element b a [" + strings.Repeat(" 3", 96) + " ]"},
		{api.Con{Kind: api.Differ, Vars: []int{0, 1}}, "different a b"},
		{api.Con{Kind: api.Differ, Vars: []int{1, 0, 8}}, "different b a i"},
		{api.Con{Kind: api.Differ, Vars: rising[1:]}, "different b c d e f g h i"},
		{api.Con{Kind: api.Table, Vars: []int{0}}, "table a [ ]"},
		{api.Con{Kind: api.Table, Vars: []int{0}, Nums: []int{}}, "table a [ ]"},
		{api.Con{Kind: api.Table, Vars: []int{3, 0}}, "table d a [ ]"},
		{api.Con{Kind: api.Table, Vars: rising[:8]}, "table a b c d e f g h [ ]"},
		{api.Con{Kind: api.Table, Vars: []int{0}, Nums: []int{0}}, "table a [ 0 ]"},
		{api.Con{Kind: api.Table, Vars: []int{8}, Nums: []int{1, -1, -2}}, "table i [ 1 - 1 - 2 ]"},
		{api.Con{Kind: api.Table, Vars: []int{2, 0, 1}, Nums: []int{1, 2, 3, 4, -5, -6}}, "table c a b [ 1 2 3 4 - 5 - 6 ]"},
		{api.Con{Kind: api.Table, Vars: []int{0, 1}, Nums: slices.Repeat([]int{8, -9}, 48)}, "table a b [" + strings.Repeat(" 8 - 9", 48) + " ]"},
	} {
		says(t, c.con, c.text)
	}
}

// P10.1: a coefficient as the first one and as later ones, in sums and in Iff's behind its first variable.
func TestCoefs(t *testing.T) {
	first := map[int]string{1: "a", -1: "- a", 2: "2 * a", -2: "- 2 * a", 11: "11 * a", -11: "- 11 * a", 1 << 20: "1048576 * a", -1 << 20: "- 1048576 * a"}
	later := map[int]string{1: "+ c", -1: "- c", 2: "+ 2 * c", -2: "- 2 * c", 11: "+ 11 * c", -11: "- 11 * c", 1 << 20: "+ 1048576 * c", -1 << 20: "- 1048576 * c"}
	iff := func(vars, coefs []int, rel, number int) api.Con {
		return api.Con{Kind: api.Iff, Vars: vars, Coefs: coefs, Rel: rel, Const: number}
	}
	for k, one := range first {
		says(t, sum([]int{0}, []int{k}, api.NE, 4), one+" != 4")
		says(t, iff([]int{1, 0}, []int{k}, api.NE, 4), "iff b "+one+" != 4")
		for n, other := range later {
			says(t, sum([]int{0, 2}, []int{k, n}, api.EQ, -4), one+" "+other+" = - 4")
			says(t, iff([]int{8, 0, 2}, []int{k, n}, api.EQ, -4), "iff i "+one+" "+other+" = - 4")
			third := later[-n]
			says(t, sum([]int{0, 2, 3}, []int{k, n, -n}, api.EQ, 0), one+" "+other+" "+strings.Replace(third, "c", "d", 1)+" = 0")
			says(t, iff([]int{4, 0, 2, 3}, []int{k, n, -n}, api.EQ, 0), "iff e "+one+" "+other+" "+strings.Replace(third, "c", "d", 1)+" = 0")
		}
	}
}

// P10.1: each of the six rels, with a Const below 0, 0 and above.
func TestRels(t *testing.T) {
	rels := map[int]string{api.EQ: "=", api.NE: "!=", api.LT: "<", api.LE: "<=", api.GT: ">", api.GE: ">="}
	consts := map[int]string{0: "0", 1: "1", -1: "- 1", 12: "12", -12: "- 12", 1 << 40: "1099511627776", -1 << 40: "- 1099511627776"}
	for rel, token := range rels {
		for number, tokens := range consts {
			says(t, sum([]int{5}, []int{1}, rel, number), "f "+token+" "+tokens)
			says(t, sum([]int{5, 0}, []int{-3, -1}, rel, number), "- 3 * f - a "+token+" "+tokens)
			says(t, api.Con{Kind: api.Iff, Vars: []int{5, 0}, Coefs: []int{-1}, Rel: rel, Const: number}, "iff f - a "+token+" "+tokens)
		}
	}
}

// P10.1: a constraint needn't be one of the model's, nor may it be a Where of the first block: all variables are there.
func TestConOfAll(t *testing.T) {
	m := api.Model{Blocks: []api.Block{
		{Vars: []api.Decl{{Name: "x", Dom: to(0, 1)}}},
		{Vars: []api.Decl{{Name: "y", Dom: to(0, 1)}, {Name: "long_name_12", Dom: to(0, 1)}}},
	}}
	for _, c := range []struct {
		con  api.Con
		text string
	}{
		{api.Con{Kind: api.Product, Vars: []int{2, 0, 1}}, "product long_name_12 x y"},
		{api.Con{Kind: api.Differ, Vars: []int{1, 2}}, "different y long_name_12"},
		{sum([]int{2, 1}, []int{-1, 12}, api.GE, -5), "- long_name_12 + 12 * y >= - 5"},
		{api.Con{Kind: api.Table, Vars: []int{2}, Nums: []int{-1}}, "table long_name_12 [ - 1 ]"},
	} {
		if text, e := Con(m, c.con); text != c.text || e != api.OK {
			t.Errorf("Con of %v: %q, %d; want %q", c.con, text, e, c.text)
		}
	}
}

// fault is a change of a model that may be, and the error that model.Check then tells.
type fault struct {
	name   string
	change func(m *api.Model)
	e      api.Errno
}

// faults are changes for each of model.Check's errors, those named first coming first.
func faults() []fault {
	return []fault{
		{"blocks", func(m *api.Model) { m.Blocks = append(m.Blocks, slices.Repeat(nine().Blocks[:1], 8)...) }, api.ErrBig},
		{"variables", func(m *api.Model) {
			m.Blocks = append(m.Blocks, nine().Blocks...)
			m.Blocks = append(m.Blocks, nine().Blocks...)
		}, api.ErrBig},
		{"where", func(m *api.Model) { m.Blocks[0].Where = slices.Repeat([]api.Con{sum([]int{0}, []int{1}, 0, 0)}, 17) }, api.ErrBig},
		{"goal", func(m *api.Model) { m.Goal = slices.Repeat([]api.Con{sum([]int{0}, []int{1}, 0, 0)}, 17) }, api.ErrBig},
		{"empty block", func(m *api.Model) { m.Blocks = append(m.Blocks, api.Block{}) }, api.ErrForm},
		{"name", func(m *api.Model) { m.Blocks[0].Vars[0].Name = "exists" }, api.ErrName},
		{"no name", func(m *api.Model) { m.Blocks[0].Vars[0].Name = "" }, api.ErrName},
		{"long name", func(m *api.Model) { m.Blocks[0].Vars[0].Name = "abcdefghijklm" }, api.ErrName},
		{"name of two tokens", func(m *api.Model) { m.Blocks[0].Vars[0].Name = "x ;" }, api.ErrName},
		{"twice", func(m *api.Model) { m.Blocks[1].Vars[1].Name = m.Blocks[0].Vars[1].Name }, api.ErrTwice},
		{"no dom", func(m *api.Model) { m.Blocks[1].Vars[2].Dom = nil }, api.ErrArg},
		{"big dom", func(m *api.Model) { m.Blocks[1].Vars[2].Dom = to(0, 64) }, api.ErrArg},
		{"falling dom", func(m *api.Model) { m.Blocks[1].Vars[2].Dom = to(1, 0) }, api.ErrArg},
		{"dom as two", func(m *api.Model) { m.Blocks[1].Vars[2].Dom = append(to(1, 1), to(2, 2)...) }, api.ErrArg},
		{"wrong where", func(m *api.Model) { m.Blocks[1].Where = make([]api.Con, 1) }, api.ErrWrong},
		{"wrong goal", func(m *api.Model) { m.Goal = []api.Con{{Kind: api.Differ, Vars: []int{0}}} }, api.ErrWrong},
		{"variable behind", func(m *api.Model) { m.Blocks[0].Where = []api.Con{sum([]int{len(m.Blocks[0].Vars)}, []int{1}, 0, 0)} }, api.ErrWrong},
	}
}

// P10.1, R2: each error that model.Check tells, of Text and of Con, with no text beside it, and whatever the constraint
// is; of two the first, and ahead of a text that is too big.
func TestChecked(t *testing.T) {
	refuses(t, "nothing", api.Model{}, api.ErrForm)
	refuses(t, "no variable", api.Model{Blocks: make([]api.Block, 8)}, api.ErrForm)
	told := map[api.Errno]bool{}
	for i, f := range faults() {
		m := nine()
		f.change(&m)
		refuses(t, f.name, m, f.e)
		told[f.e] = true
		for _, other := range faults()[i+1:] {
			m := nine()
			f.change(&m)
			other.change(&m)
			// What the first change made may be gone by the other one, or in its way; the errors' order is model.Check's.
			refuses(t, f.name+" and "+other.name, m, model.Check(m))
		}
		big := greatest()
		f.change(&big)
		refuses(t, f.name+" of what is too big", big, f.e)
	}
	if len(told) != 6 {
		t.Errorf("%d errors", len(told))
	}
}

// greatest is a model that may be, whose text is far too big.
func greatest() api.Model {
	m := api.Model{Blocks: make([]api.Block, 2)}
	c := api.Con{Kind: api.Table, Vars: []int{0, 1, 2, 3, 4, 5, 6, 7}, Nums: slices.Repeat([]int{-1 << 20}, 96)}
	var dom []api.Span
	for v := range 64 {
		dom = append(dom, api.Span{Low: 2*v - 1<<20, High: 2*v - 1<<20})
	}
	for i := range api.MostVars {
		b := &m.Blocks[i/8]
		b.Vars = append(b.Vars, api.Decl{Name: "abcdefghij" + fmt.Sprintf("%02d", i), Dom: dom})
		b.Where = slices.Repeat([]api.Con{c}, 16)
	}
	m.Goal = slices.Repeat([]api.Con{c}, 16)
	return m
}

// sized is a model whose text has so many bytes, from 500 to some 4500, and that text.
func sized(bytes int) (api.Model, string) {
	m := single(nil, nil)
	left := bytes - len("exists x in 0 .. 1 ;\ngoal ") - 16*len("table x [ ] and ") + len(" and ") - len(" ;\n")
	var goal []string
	for range 16 {
		c := api.Con{Kind: api.Table, Vars: []int{0}}
		text := "table x [ "
		for left > 0 && len(c.Nums) < 60 {
			n := 12345
			for left < 6 && left < len(fmt.Sprint(n))+1 || left == 7 && n > 999 {
				n /= 10
			}
			c.Nums = append(c.Nums, n)
			text += fmt.Sprint(n, " ")
			left -= len(fmt.Sprint(n, " "))
		}
		m.Goal = append(m.Goal, c)
		goal = append(goal, text+"]")
	}
	return m, "exists x in 0 .. 1 ;\ngoal " + strings.Join(goal, " and ") + " ;\n"
}

// P10.1: ErrBig, if the text has more than MostText bytes, the last line end among them; else the text. Con has no such
// limit of the model.
func TestMostText(t *testing.T) {
	for n := 3500; n <= 4500; n++ {
		m, want := sized(n)
		if len(want) != n || model.Check(m) != api.OK {
			t.Fatalf("%d bytes of %d", len(want), n)
		}
		if n <= 4000 {
			tells(t, m, want)
		} else if text, e := Text(m); text != "" || e != api.ErrBig {
			t.Errorf("%d bytes: %.100q, %d", n, text, e)
		}
		if text, e := Con(m, sum([]int{0}, []int{-4}, api.LT, n)); text != "- 4 * x < "+fmt.Sprint(n) || e != api.OK {
			t.Errorf("%d bytes: Con: %q, %d", n, text, e)
		}
	}
	m := greatest()
	if text, e := Text(m); text != "" || e != api.ErrBig {
		t.Errorf("Text of the greatest: %.100q, %d", text, e)
	}
	if text, e := Con(m, m.Goal[0]); text != (hand{}).con(m.Goal[0], namesOf(m)) || len(text) < 1000 || e != api.OK {
		t.Errorf("Con of the greatest: %.100q, %d", text, e)
	}
	m.Goal = nil
	for i := range m.Blocks {
		m.Blocks[i].Where = nil
	}
	if text, e := Text(m); text != "" || e != api.ErrBig {
		t.Errorf("Text of the greatest's blocks: %.100q, %d", text, e)
	}
}

// P10.1: ErrWrong, if a constraint may not be of as many variables as the model has, with no text beside.
func TestConWrong(t *testing.T) {
	cons := []api.Con{
		{}, {Kind: -1}, {Kind: 7, Vars: []int{0}}, {Vars: []int{0}, Coefs: []int{1}}, {Kind: math.MinInt},
		sum(nil, nil, 0, 0), sum([]int{0}, nil, 0, 0), sum([]int{0}, []int{0}, 0, 0), sum([]int{0}, []int{1<<20 + 1}, 0, 0), sum([]int{0}, []int{math.MinInt}, 0, 0),
		sum([]int{0}, []int{1, 1}, 0, 0), sum([]int{0, 0}, []int{1, 1}, 0, 0), sum([]int{0}, []int{1}, 6, 0), sum([]int{0}, []int{1}, -1, 0), sum([]int{0}, []int{1}, 0, 1<<40+1),
		sum([]int{0}, []int{1}, 0, math.MinInt), sum([]int{-1}, []int{1}, 0, 0), sum([]int{0, 1, 2, 3, 4, 5, 6, 7, 8}, slices.Repeat([]int{1}, 9), 0, 0),
		{Kind: api.Linear, Vars: []int{0}, Coefs: []int{1}, Nums: []int{1}},
		{Kind: api.Product, Vars: []int{0, 1}}, {Kind: api.Product, Vars: []int{0, 1, 0}}, {Kind: api.Product, Vars: []int{0, 1, 2, 3}}, {Kind: api.Product, Vars: []int{0, 1, 2}, Const: 1},
		{Kind: api.Iff}, {Kind: api.Iff, Vars: []int{0}}, {Kind: api.Iff, Vars: []int{0, 1}}, {Kind: api.Iff, Vars: []int{0, 1}, Coefs: []int{1, 1}}, {Kind: api.Iff, Vars: []int{0, 0}, Coefs: []int{1}},
		{Kind: api.Element, Vars: []int{0, 1}}, {Kind: api.Element, Vars: []int{0}, Nums: []int{1}}, {Kind: api.Element, Vars: []int{0, 1}, Nums: make([]int, 97)},
		{Kind: api.Element, Vars: []int{0, 1}, Nums: []int{1<<20 + 1}}, {Kind: api.Element, Vars: []int{0, 1}, Nums: []int{1}, Rel: 1}, {Kind: api.Differ, Vars: []int{0}}, {Kind: api.Differ},
		{Kind: api.Differ, Vars: []int{0, 1, 0}}, {Kind: api.Differ, Vars: []int{0, 1}, Coefs: []int{1, 1}}, {Kind: api.Table}, {Kind: api.Table, Nums: []int{1}}, {Kind: api.Table, Vars: []int{0, 1}, Nums: []int{1}},
		{Kind: api.Table, Vars: []int{0}, Nums: []int{-1<<20 - 1}}, {Kind: api.Table, Vars: []int{0}, Nums: make([]int, 97)}, {Kind: api.Table, Vars: make([]int, 1<<20)},
	}
	for _, v := range []int{9, 10, math.MaxInt, math.MinInt, -1} {
		cons = append(cons, sum([]int{v}, []int{1}, 0, 0), api.Con{Kind: api.Differ, Vars: []int{0, v}}, api.Con{Kind: api.Table, Vars: []int{v}}, api.Con{Kind: api.Product, Vars: []int{v, 0, 1}},
			api.Con{Kind: api.Iff, Vars: []int{v, 0}, Coefs: []int{1}}, api.Con{Kind: api.Element, Vars: []int{1, v}, Nums: []int{1}})
	}
	for _, m := range []api.Model{nine(), single(nil, nil)} {
		for _, c := range cons {
			if text, e := Con(m, c); text != "" || e != api.ErrWrong {
				t.Errorf("Con of %.100s: %q, %d", fmt.Sprint(c), text, e)
			}
		}
	}
	// What may be of nine variables may be one of more than there are.
	for n := 1; n <= 9; n++ {
		m := nine()
		m.Blocks[0].Vars = slices.Concat(m.Blocks[0].Vars, m.Blocks[1].Vars)[:n]
		m.Blocks = m.Blocks[:1]
		for v := range 12 {
			text, e := Con(m, sum([]int{v}, []int{1}, 0, 0))
			if v < n && (text != "abcdefghi"[v:v+1]+" = 0" || e != api.OK) || v >= n && (text != "" || e != api.ErrWrong) {
				t.Errorf("Con of variable %d of %d: %q, %d", v, n, text, e)
			}
		}
	}
}

// P10.1, P10.2: models that are thrown: their texts are what the chapter's words, done plainly, are, and they come back.
func TestThrown(t *testing.T) {
	d := dice(101)
	big := 0
	for range 4000 {
		m := thrownModel(&d, 8, 5, 1<<(6+d.upTo(15)))
		want := hand{}.text(m)
		if len(want) > api.MostText {
			big++
			if text, e := Text(m); text != "" || e != api.ErrBig {
				t.Errorf("Text of %d bytes: %.100q, %d", len(want), text, e)
			}
			continue
		}
		tells(t, m, want)
		names := namesOf(m)
		c := thrownCon(&d, len(names), 1<<20)
		if text, e := Con(m, c); text != (hand{}).con(c, names) || e != api.OK {
			t.Errorf("Con of %v: %q, %d", c, text, e)
		}
	}
	if big > 400 {
		t.Errorf("%d are too big", big)
	}
}

// P10.2: unlike models have unlike texts: those that differ in one part alone, too.
func TestUnlike(t *testing.T) {
	base := func() api.Model {
		return api.Model{
			Blocks: []api.Block{
				{Vars: []api.Decl{{Name: "a", Dom: []api.Span{{Low: 1, High: 2}, {Low: 4, High: 4}}}, {Name: "b", Dom: to(0, 3)}}, Where: []api.Con{sum([]int{0, 1}, []int{1, -2}, api.EQ, 3), {Kind: api.Differ, Vars: []int{0, 1}}}},
				{All: true, Vars: []api.Decl{{Name: "c", Dom: to(5, 5)}}},
			},
			Goal: []api.Con{{Kind: api.Element, Vars: []int{0, 1}, Nums: []int{1, 2}}, {Kind: api.Table, Vars: []int{0, 1}, Nums: []int{1, 2}}, {Kind: api.Product, Vars: []int{0, 1, 2}}, {Kind: api.Iff, Vars: []int{2, 0}, Coefs: []int{1}}},
		}
	}
	texts := map[string]string{}
	for name, change := range map[string]func(m *api.Model){
		"none":         func(m *api.Model) {},
		"All":          func(m *api.Model) { m.Blocks[0].All = true },
		"not All":      func(m *api.Model) { m.Blocks[1].All = false },
		"name":         func(m *api.Model) { m.Blocks[0].Vars[0].Name = "d" },
		"names' order": func(m *api.Model) { m.Blocks[0].Vars[0].Name, m.Blocks[0].Vars[1].Name = "b", "a" },
		"Low":          func(m *api.Model) { m.Blocks[0].Vars[1].Dom[0].Low = 1 },
		"High":         func(m *api.Model) { m.Blocks[0].Vars[1].Dom[0].High = 2 },
		"one number":   func(m *api.Model) { m.Blocks[0].Vars[1].Dom[0].High = 0 },
		"below 0":      func(m *api.Model) { m.Blocks[1].Vars[0].Dom = to(-5, -5) },
		"from below 0": func(m *api.Model) { m.Blocks[1].Vars[0].Dom = to(-5, 5) },
		"fewer spans":  func(m *api.Model) { m.Blocks[0].Vars[0].Dom = to(1, 2) },
		"a gap filled": func(m *api.Model) { m.Blocks[0].Vars[0].Dom = to(1, 4) },
		"more spans":   func(m *api.Model) { m.Blocks[1].Vars[0].Dom = append(to(5, 5), to(7, 7)...) },
		"blocks made one": func(m *api.Model) {
			m.Blocks[0].Vars = append(m.Blocks[0].Vars, m.Blocks[1].Vars...)
			m.Blocks = m.Blocks[:1]
		},
		"a variable behind": func(m *api.Model) { m.Blocks[1].Vars = append(m.Blocks[1].Vars, api.Decl{Name: "d", Dom: to(0, 0)}) },
		"a block behind": func(m *api.Model) {
			m.Blocks = append(m.Blocks, api.Block{All: true, Vars: []api.Decl{{Name: "d", Dom: to(0, 0)}}})
		},
		"no Where":          func(m *api.Model) { m.Blocks[0].Where = nil },
		"less of Where":     func(m *api.Model) { m.Blocks[0].Where = m.Blocks[0].Where[:1] },
		"Where's order":     func(m *api.Model) { slices.Reverse(m.Blocks[0].Where) },
		"Where as goal":     func(m *api.Model) { m.Blocks[0].Where, m.Goal = nil, append(m.Blocks[0].Where, m.Goal...) },
		"Where behind":      func(m *api.Model) { m.Blocks[0].Where, m.Blocks[1].Where = nil, m.Blocks[0].Where },
		"Where twice":       func(m *api.Model) { m.Blocks[1].Where = m.Blocks[0].Where },
		"no goal":           func(m *api.Model) { m.Goal = nil },
		"less of the goal":  func(m *api.Model) { m.Goal = m.Goal[:3] },
		"the goal's order":  func(m *api.Model) { slices.Reverse(m.Goal) },
		"the goal twice":    func(m *api.Model) { m.Goal = slices.Repeat(m.Goal, 2) },
		"Coef's sign":       func(m *api.Model) { m.Blocks[0].Where[0].Coefs[0] = -1 },
		"Coef":              func(m *api.Model) { m.Blocks[0].Where[0].Coefs[0] = 2 },
		"later Coef's sign": func(m *api.Model) { m.Blocks[0].Where[0].Coefs[1] = 2 },
		"later Coef":        func(m *api.Model) { m.Blocks[0].Where[0].Coefs[1] = -1 },
		"Coefs' order":      func(m *api.Model) { slices.Reverse(m.Blocks[0].Where[0].Coefs) },
		"sum's Vars' order": func(m *api.Model) { slices.Reverse(m.Blocks[0].Where[0].Vars) },
		"Rel NE":            func(m *api.Model) { m.Blocks[0].Where[0].Rel = api.NE },
		"Rel LT":            func(m *api.Model) { m.Blocks[0].Where[0].Rel = api.LT },
		"Rel LE":            func(m *api.Model) { m.Blocks[0].Where[0].Rel = api.LE },
		"Rel GT":            func(m *api.Model) { m.Blocks[0].Where[0].Rel = api.GT },
		"Rel GE":            func(m *api.Model) { m.Blocks[0].Where[0].Rel = api.GE },
		"Const":             func(m *api.Model) { m.Blocks[0].Where[0].Const = 4 },
		"Const's sign":      func(m *api.Model) { m.Blocks[0].Where[0].Const = -3 },
		"Vars' order":       func(m *api.Model) { slices.Reverse(m.Goal[0].Vars) },
		"table for element": func(m *api.Model) { m.Goal[0].Kind = api.Table },
		"element for table": func(m *api.Model) { m.Goal[1].Kind = api.Element },
		"differ for goal":   func(m *api.Model) { m.Goal[2].Kind = api.Differ },
		"sum for iff":       func(m *api.Model) { m.Goal[3] = sum([]int{2, 0}, []int{1, 1}, api.EQ, 0) },
		"Nums' sign":        func(m *api.Model) { m.Goal[0].Nums[1] = -2 },
		"Nums":              func(m *api.Model) { m.Goal[0].Nums[1] = 12 },
		"Nums made one":     func(m *api.Model) { m.Goal[0].Nums = []int{12} },
		"no Nums":           func(m *api.Model) { m.Goal[1].Nums = nil },
		"Iff's first":       func(m *api.Model) { m.Goal[3].Vars[0] = 1 },
		"Iff's sum":         func(m *api.Model) { m.Goal[3].Vars[1] = 1 },
	} {
		m := base()
		change(&m)
		want := hand{}.text(m)
		tells(t, m, want)
		text, _ := Text(m)
		if had, ok := texts[text]; ok {
			t.Errorf("%s and %s: %q", name, had, text)
		}
		texts[text] = name
	}
	// Small ones, many of which come twice.
	d := dice(102)
	models := map[string]api.Model{}
	twice := 0
	for range 30000 {
		m := thrownModel(&d, 1, 1, 61)
		text, e := Text(m)
		had, ok := models[text]
		if e != api.OK || ok && !model.Same(m, had) {
			t.Fatalf("%v and %v: %q, %d", m, had, text, e)
		}
		if ok {
			twice++
		}
		models[text] = m
	}
	if twice < 100 || len(models) < 1000 {
		t.Errorf("%d came twice of %d", twice, len(models))
	}
}

// P10.2: texts of one model, written otherwise, are one text, once they are read and written.
func TestOneText(t *testing.T) {
	d := dice(103)
	seen := 0
	for range 300 {
		m := thrownModel(&d, 4, 2, 1<<(6+d.upTo(15)))
		want := hand{}.text(m)
		texts := map[string]bool{}
		for ways := range 32 {
			h := hand{twice: ways&1 > 0, ones: ways&2 > 0, where: ways&4 > 0, zeros: ways&8 > 0, minus: ways&16 > 0}
			written := h.text(m)
			tokens := strings.Fields(written)
			for _, text := range []string{written, strings.Join(tokens, " "), strings.Join(tokens, "\n"), "\n " + strings.Join(tokens, "  \n") + " ", dense(tokens)} {
				texts[text] = true
			}
		}
		for text := range texts {
			back, _, e := parse.Parse(text)
			if e == api.ErrBig && len(text) > api.MostText {
				continue
			}
			seen++
			again, f := Text(back)
			if e != api.OK || (again != want || f != api.OK) && (len(want) <= api.MostText || again != "" || f != api.ErrBig) {
				t.Fatalf("of %q, read and written: %q, %d, %d; want %q", text, again, e, f, want)
			}
			if len(texts) < 5 {
				t.Errorf("%d texts of %q", len(texts), want)
			}
		}
	}
	if seen < 10000 {
		t.Errorf("%d texts", seen)
	}
	for _, c := range []struct{ text, want string }{
		{"exists x in-3..-3;goal-1*x<0;", "exists x in - 3 ;\ngoal - x < 0 ;\n"},
		{"forall\n\ny in 0..1 where true\n;goal\ntrue\n;\n\n", "forall y in 0 .. 1 ;\ngoal true ;\n"},
		{"exists x in 007..0010, z in 1..1 3..3 where 1*x-1*z!=-0 and 02*z>=000; goal table x[]and element x z[-0 1];",
			"exists x in 7 .. 10 , z in 1 3 where x - z != 0 and 2 * z >= 0 ;\ngoal table x [ ] and element x z [ 0 1 ] ;\n"},
	} {
		m, _, e := parse.Parse(c.text)
		if e != api.OK {
			t.Errorf("Parse(%q): %d", c.text, e)
		}
		tells(t, m, c.want)
	}
}

// dense is tokens with nothing between, but where two would be one.
func dense(tokens []string) string {
	text := ""
	for i, token := range tokens {
		long := func(text string) bool { return !strings.Contains(",;:[]=<>+-*!.", text[:1]) }
		if i > 0 && long(token) && long(tokens[i-1]) {
			text += " "
		}
		text += token
	}
	return text
}

// P10.2: a model whose text is too big may have been read: what is parted by nothing has fewer bytes.
func TestReadTooBig(t *testing.T) {
	m := single(nil, nil)
	wrote := map[bool]int{}
	for range api.MostCons {
		m.Goal = append(m.Goal, api.Con{Kind: api.Table, Vars: []int{0}, Nums: slices.Repeat([]int{-1}, 96)})
		want := hand{}.text(m)
		back, _, e := parse.Parse(dense(strings.Fields(want)))
		if e != api.OK || !model.Same(back, m) {
			t.Fatalf("%d bytes: %d", len(want), e)
		}
		fits := len(want) <= api.MostText
		wrote[fits]++
		if fits {
			tells(t, back, want)
		} else if text, e := Text(back); text != "" || e != api.ErrBig {
			t.Errorf("of %d bytes: %.100q, %d", len(want), text, e)
		}
	}
	if wrote[true] < 5 || wrote[false] < 5 {
		t.Errorf("wrote %v", wrote)
	}
}

// R1: models and constraints of anything: each call ends, and tells what model.Check does, if it isn't OK.
func TestStrange(t *testing.T) {
	d := dice(104)
	ints := []int{math.MinInt, math.MaxInt, -1, 0, 1, 2, 6, 7, 1 << 20, -1 << 20, 1<<20 + 1, 1 << 40, -1 << 40, 1<<40 + 1}
	pick := func() int { return ints[d.upTo(len(ints))] }
	list := func() []int {
		var l []int
		for range d.upTo(5) {
			l = append(l, pick())
		}
		return l
	}
	con := func() api.Con {
		return api.Con{Kind: d.upTo(9) - 1, Vars: list(), Coefs: list(), Rel: pick(), Const: pick(), Nums: list()}
	}
	told := map[api.Errno]int{}
	for range 20000 {
		m := thrownModel(&d, 3, 2, 1<<10)
		for range d.upTo(3) {
			b := &m.Blocks[d.upTo(len(m.Blocks))]
			switch d.upTo(6) {
			case 0:
				b.Vars = append(b.Vars, api.Decl{Name: []string{"", "x", "$", ";", "goal", "é", "x0", "x1"}[d.upTo(8)], Dom: to(pick(), pick())})
			case 1:
				b.Vars = nil
			case 2:
				b.Where = append(b.Where, con())
			case 3:
				m.Goal = append(m.Goal, con())
			case 4:
				b.Where = slices.Repeat([]api.Con{con()}, d.upTo(20))
			case 5:
				m.Blocks = slices.Concat(m.Blocks, m.Blocks, m.Blocks)
			}
		}
		want := model.Check(m)
		told[want]++
		text, e := Text(m)
		if e != want || (text == "") != (e != api.OK) {
			t.Fatalf("Text of %v: %q, %d; want %d", m, text, e, want)
		}
		c := con()
		if want == api.OK && !model.Right(c, len(model.Vars(m))) {
			want = api.ErrWrong
		}
		if text, e := Con(m, c); e != want || (text == "") != (e != api.OK) {
			t.Fatalf("Con of %v, %v: %q, %d; want %d", m, c, text, e, want)
		}
	}
	if len(told) != 7 {
		t.Errorf("told: %v", told)
	}
	refuses(t, "a very long name", api.Model{Blocks: []api.Block{{Vars: []api.Decl{{Name: strings.Repeat("x", 1<<24), Dom: to(0, 0)}}}}}, api.ErrName)
	refuses(t, "very many blocks", api.Model{Blocks: make([]api.Block, 1<<20)}, api.ErrBig)
}

// R3, R4, R5: models and constraints stay as they were; the same calls answer the same, whatever was asked between, in
// memory of their own.
func TestAnswersShareNothing(t *testing.T) {
	d := dice(105)
	for range 300 {
		seed := d
		m, same := thrownModel(&d, 4, 3, 1<<20), thrownModel(&seed, 4, 3, 1<<20)
		c, alike := thrownCon(&d, len(namesOf(m)), 99), thrownCon(&seed, len(namesOf(m)), 99)
		text, e := Text(m)
		token, f := Con(m, c)
		if !reflect.DeepEqual(m, same) || !reflect.DeepEqual(c, alike) {
			t.Fatalf("%v became %v, or %v became %v", same, m, alike, c)
		}
		if again, g := Text(m); again != text || g != e || len(text) > 0 && unsafe.StringData(again) == unsafe.StringData(text) {
			t.Errorf("Text: %q, %d; and %q, %d", text, e, again, g)
		}
		if again, g := Con(m, c); again != token || g != f || unsafe.StringData(again) == unsafe.StringData(token) {
			t.Errorf("Con: %q, %d; and %q, %d", token, f, again, g)
		}
	}
}
