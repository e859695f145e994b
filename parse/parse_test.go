package parse

import (
	"fmt"
	"reflect"
	"slices"
	"strconv"
	"strings"
	"testing"

	"stratagem/api"
	"stratagem/model"
	"stratagem/scan"
)

// dice tells numbers that look thrown, the same ones in each run.
type dice uint64

func (d *dice) next() uint64 {
	*d = *d*6364136223846793005 + 1442695040888963407
	return uint64(*d) ^ uint64(*d)>>29
}

func (d *dice) upTo(n int) int {
	return int(d.next() >> 8 % uint64(n))
}

// reads looks whether a text is told as this model, with no place.
func reads(t *testing.T, text string, want api.Model) {
	t.Helper()
	m, at, e := Parse(text)
	if !model.Same(m, want) || at != 0 || e != api.OK {
		t.Errorf("Parse(%.200q): %v, %d, %d", text, m, at, e)
	}
}

// refuses looks whether a text is told as wrong, at this place, by this error, with no model beside.
func refuses(t *testing.T, text string, place int, wrong api.Errno) {
	t.Helper()
	m, at, e := Parse(text)
	if !reflect.DeepEqual(m, api.Model{}) || at != place || e != wrong {
		t.Errorf("Parse(%.200q): %v, %d, %d; want %d, %d", text, m, at, e, place, wrong)
	}
}

// stops looks whether a text, of which a token is marked by an @ ahead of it, is wrong at that token, by this error.
func stops(t *testing.T, marked string, wrong api.Errno) {
	t.Helper()
	ahead, behind, _ := strings.Cut(marked, "@")
	refuses(t, ahead+behind, len(ahead), wrong)
}

// plainly looks whether Parse answers what plainParse does, and tells the error.
func plainly(t *testing.T, text string) api.Errno {
	t.Helper()
	m, at, e := Parse(text)
	want, place, wrong := plainParse(text)
	if !model.Same(m, want) || at != place || e != wrong {
		t.Fatalf("Parse(%q): %v, %d, %d; want %v, %d, %d", text, m, at, e, want, place, wrong)
	}
	if e != api.OK && !reflect.DeepEqual(m, api.Model{}) {
		t.Fatalf("Parse(%q): %v beside %d", text, m, e)
	}
	return e
}

// to is one span.
func to(low, high int) []api.Span {
	return []api.Span{{Low: low, High: high}}
}

// texts are models, that may be, with all that the chapter names.
var texts = []string{
	"forall y in 0..1; exists x in 0..1; goal y - x = 0;",
	"exists x in 1..2; goal x = 2;",
	"exists a in 3; goal true;",
	"exists a in 0..3, b in 0..3, c in 0..9 where product a b c and different a b c; goal true;",
	"forall y in -3..-2 5 7..9 where y > 5 and y != 8; exists x in 0..9 where true; goal y + 2*x <= -12;",
	"exists i in 0..2, v in 1 3 5; forall w in 0..1 where table w [0]; exists q_1 in -1..1; " +
		"goal element i v [1 -3 5] and iff w -2*i + v - 7*q_1 >= 0 and table i v [0 1 -1 2] and table q_1 [] and different i q_1;",
	"exists x in 0..1, y in 5; forall zz in 0 7..9 where different zz x and zz > 1; goal 5*x < 1;",
	"exists x in 0..1 where -x < 1; exists z in 0 2; exists y in 0..1 where iff x 3*y - z = 3; goal x + y + z > 0 and 5*z != -1;",
}

// P9.1: the chapter's example, and two texts with all that a block may have.
func TestParse(t *testing.T) {
	reads(t, "forall y in 0..1; exists x in 0..1; goal y - x = 0;", api.Model{
		Blocks: []api.Block{
			{All: true, Vars: []api.Decl{{Name: "y", Dom: to(0, 1)}}},
			{Vars: []api.Decl{{Name: "x", Dom: to(0, 1)}}},
		},
		Goal: []api.Con{{Kind: 1, Vars: []int{0, 1}, Coefs: []int{1, -1}}},
	})
	reads(t, texts[4], api.Model{
		Blocks: []api.Block{
			{All: true, Vars: []api.Decl{{Name: "y", Dom: []api.Span{{Low: -3, High: -2}, {Low: 5, High: 5}, {Low: 7, High: 9}}}}, Where: []api.Con{
				{Kind: 1, Vars: []int{0}, Coefs: []int{1}, Rel: api.GT, Const: 5},
				{Kind: 1, Vars: []int{0}, Coefs: []int{1}, Rel: api.NE, Const: 8},
			}},
			{Vars: []api.Decl{{Name: "x", Dom: to(0, 9)}}},
		},
		Goal: []api.Con{{Kind: 1, Vars: []int{0, 1}, Coefs: []int{1, 2}, Rel: api.LE, Const: -12}},
	})
	reads(t, texts[5], api.Model{
		Blocks: []api.Block{
			{Vars: []api.Decl{{Name: "i", Dom: to(0, 2)}, {Name: "v", Dom: []api.Span{{Low: 1, High: 1}, {Low: 3, High: 3}, {Low: 5, High: 5}}}}},
			{All: true, Vars: []api.Decl{{Name: "w", Dom: to(0, 1)}}, Where: []api.Con{{Kind: 6, Vars: []int{2}, Nums: []int{0}}}},
			{Vars: []api.Decl{{Name: "q_1", Dom: to(-1, 1)}}},
		},
		Goal: []api.Con{
			{Kind: 4, Vars: []int{0, 1}, Nums: []int{1, -3, 5}},
			{Kind: 3, Vars: []int{2, 0, 1, 3}, Coefs: []int{-2, 1, -7}, Rel: api.GE},
			{Kind: 6, Vars: []int{0, 1}, Nums: []int{0, 1, -1, 2}},
			{Kind: 6, Vars: []int{3}},
			{Kind: 5, Vars: []int{0, 3}},
		},
	})
}

// cons are constraints of the variables a to i, by their texts.
func cons() map[string]api.Con {
	nine := []int{0, 1, 2, 3, 4, 5, 6, 7, 8}
	return map[string]api.Con{
		"product a b c": {Kind: api.Product, Vars: []int{0, 1, 2}},
		"product i c a": {Kind: api.Product, Vars: []int{8, 2, 0}},

		"iff a b = 0":                       {Kind: api.Iff, Vars: []int{0, 1}, Coefs: []int{1}},
		"iff b -a < 7":                      {Kind: api.Iff, Vars: []int{1, 0}, Coefs: []int{-1}, Rel: api.LT, Const: 7},
		"iff b 9*a != -7":                   {Kind: api.Iff, Vars: []int{1, 0}, Coefs: []int{9}, Rel: api.NE, Const: -7},
		"iff a b+c+d+e+f+g+h+i >= 1":        {Kind: api.Iff, Vars: nine, Coefs: []int{1, 1, 1, 1, 1, 1, 1, 1}, Rel: api.GE, Const: 1},
		"iff c b - 2*a + 3*d - e <= 100000": {Kind: api.Iff, Vars: []int{2, 1, 0, 3, 4}, Coefs: []int{1, -2, 3, -1}, Rel: api.LE, Const: 100000},

		"element a b [5]":                                {Kind: api.Element, Vars: []int{0, 1}, Nums: []int{5}},
		"element b a [-5]":                               {Kind: api.Element, Vars: []int{1, 0}, Nums: []int{-5}},
		"element a b [1 -2 3 - 4 1048576]":               {Kind: api.Element, Vars: []int{0, 1}, Nums: []int{1, -2, 3, -4, 1048576}},
		"element a b [-1048576 0 0]":                     {Kind: api.Element, Vars: []int{0, 1}, Nums: []int{-1048576, 0, 0}},
		"element i h [" + strings.Repeat(" 7", 96) + "]": {Kind: api.Element, Vars: []int{8, 7}, Nums: slices.Repeat([]int{7}, 96)},

		"different a b":             {Kind: api.Differ, Vars: []int{0, 1}},
		"different b a":             {Kind: api.Differ, Vars: []int{1, 0}},
		"different a b c":           {Kind: api.Differ, Vars: []int{0, 1, 2}},
		"different h g f e d c b a": {Kind: api.Differ, Vars: []int{7, 6, 5, 4, 3, 2, 1, 0}},

		"table a []":                  {Kind: api.Table, Vars: []int{0}},
		"table a b []":                {Kind: api.Table, Vars: []int{0, 1}},
		"table a [1]":                 {Kind: api.Table, Vars: []int{0}, Nums: []int{1}},
		"table a [1 -1 -2]":           {Kind: api.Table, Vars: []int{0}, Nums: []int{1, -1, -2}},
		"table b a [-1 2]":            {Kind: api.Table, Vars: []int{1, 0}, Nums: []int{-1, 2}},
		"table a b c d e f g h []":    {Kind: api.Table, Vars: nine[:8]},
		"table c b a [1 2 3 4 -5 -6]": {Kind: api.Table, Vars: []int{2, 1, 0}, Nums: []int{1, 2, 3, 4, -5, -6}},
		"table a b [" + strings.Repeat("8 9 ", 48) + "]": {Kind: api.Table, Vars: []int{0, 1}, Nums: slices.Repeat([]int{8, 9}, 48)},

		"a = 0":                      {Kind: api.Linear, Vars: []int{0}, Coefs: []int{1}},
		"a != 1":                     {Kind: api.Linear, Vars: []int{0}, Coefs: []int{1}, Rel: api.NE, Const: 1},
		"a < 2":                      {Kind: api.Linear, Vars: []int{0}, Coefs: []int{1}, Rel: api.LT, Const: 2},
		"a <= 3":                     {Kind: api.Linear, Vars: []int{0}, Coefs: []int{1}, Rel: api.LE, Const: 3},
		"a > 4":                      {Kind: api.Linear, Vars: []int{0}, Coefs: []int{1}, Rel: api.GT, Const: 4},
		"a >= 5":                     {Kind: api.Linear, Vars: []int{0}, Coefs: []int{1}, Rel: api.GE, Const: 5},
		"a = -0":                     {Kind: api.Linear, Vars: []int{0}, Coefs: []int{1}},
		"a != -1":                    {Kind: api.Linear, Vars: []int{0}, Coefs: []int{1}, Rel: api.NE, Const: -1},
		"a < -2":                     {Kind: api.Linear, Vars: []int{0}, Coefs: []int{1}, Rel: api.LT, Const: -2},
		"a <= - 3":                   {Kind: api.Linear, Vars: []int{0}, Coefs: []int{1}, Rel: api.LE, Const: -3},
		"a > -1099511627776":         {Kind: api.Linear, Vars: []int{0}, Coefs: []int{1}, Rel: api.GT, Const: -1 << 40},
		"a >= 1099511627776":         {Kind: api.Linear, Vars: []int{0}, Coefs: []int{1}, Rel: api.GE, Const: 1 << 40},
		"-a = 0":                     {Kind: api.Linear, Vars: []int{0}, Coefs: []int{-1}},
		"1*a = 0":                    {Kind: api.Linear, Vars: []int{0}, Coefs: []int{1}},
		"-1*a = 0":                   {Kind: api.Linear, Vars: []int{0}, Coefs: []int{-1}},
		"7*a = 0":                    {Kind: api.Linear, Vars: []int{0}, Coefs: []int{7}},
		"- 007*a = 007":              {Kind: api.Linear, Vars: []int{0}, Coefs: []int{-7}, Const: 7},
		"1048576*a - 1048576*b = 0":  {Kind: api.Linear, Vars: []int{0, 1}, Coefs: []int{1 << 20, -1 << 20}},
		"a + b = 1":                  {Kind: api.Linear, Vars: []int{0, 1}, Coefs: []int{1, 1}, Const: 1},
		"a - b = 1":                  {Kind: api.Linear, Vars: []int{0, 1}, Coefs: []int{1, -1}, Const: 1},
		"a - b + c = 1":              {Kind: api.Linear, Vars: []int{0, 1, 2}, Coefs: []int{1, -1, 1}, Const: 1},
		"-a + b - c = 1":             {Kind: api.Linear, Vars: []int{0, 1, 2}, Coefs: []int{-1, 1, -1}, Const: 1},
		"-b - 2*a > -1":              {Kind: api.Linear, Vars: []int{1, 0}, Coefs: []int{-1, -2}, Rel: api.GT, Const: -1},
		"2*b + 3*a - 4*c - d + e<-1": {Kind: api.Linear, Vars: []int{1, 0, 2, 3, 4}, Coefs: []int{2, 3, -4, -1, 1}, Rel: api.LT, Const: -1},
		"h+g+f+e+d+c+b+a = 8":        {Kind: api.Linear, Vars: []int{7, 6, 5, 4, 3, 2, 1, 0}, Coefs: []int{1, 1, 1, 1, 1, 1, 1, 1}, Const: 8},
	}
}

// letters are the variables a to i, with a block's first word, and their values.
const letters = "exists a in 0..9, b in 0..9, c in 0..9, d in 0..9, e in 0..9, f in 0..9, g in 0..9, h in 0..9, i in 0..9"

// nine is the model of these variables, with a block's constraints, and a goal.
func nine(where, goal []api.Con) api.Model {
	m := api.Model{Blocks: []api.Block{{Where: where}}, Goal: goal}
	for i := range 9 {
		m.Blocks[0].Vars = append(m.Blocks[0].Vars, api.Decl{Name: "abcdefghi"[i : i+1], Dom: to(0, 9)})
	}
	return m
}

// P9.1: each kind of constraint, with the fewest names and numbers that it may have, and with more; as a goal, as a
// block's, and with another one ahead, and behind.
func TestConstraints(t *testing.T) {
	other := api.Con{Kind: api.Differ, Vars: []int{1, 2}}
	for text, c := range cons() {
		reads(t, letters+"; goal "+text+";", nine(nil, []api.Con{c}))
		reads(t, letters+" where "+text+"; goal true;", nine([]api.Con{c}, nil))
		reads(t, letters+" where "+text+" and different b c; goal different b c and "+text+";", nine([]api.Con{c, other}, []api.Con{other, c}))
	}
}

// P9.1: each kind of constraint with one name or number fewer, or more, than it may have, or with another token between;
// behind each of them stands a `;`.
func TestNoConstraints(t *testing.T) {
	for _, c := range []string{
		"product @", "product a@", "product a b@", "product a b c @d", "product a @- b c", "product a @, b, c", "product @2 b c", "product a b @[",
		"product a b c @[1]", "product a b c @= 1", "product a @* b", "product a b @and a = 1", "product @product a b c", "product a b @in",
		"iff@", "iff a@", "iff a @= 0", "iff a b@", "iff a b =@", "iff a b @c = 0", "iff @- a b = 0", "iff @2 * a b = 0",
		"iff a @+ b = 0", "iff a - @- b = 0", "iff a - b = 0 @+ c", "iff a 2 @= 0", "iff a 2 * @= 0", "iff a @[", "iff a @product", "iff @true b = 0",
		"element@", "element a@", "element a b@", "element a b [@", "element a b [@]", "element a b [1@", "element a @[1]", "element a b @c [1]",
		"element a b [1@, 2]", "element a b [1 -@]", "element a b [- @- 1]", "element a b [1 @.. 2]", "element a b [@c]", "element a b [1] @2",
		"element a b @1]", "element a b @] 1", "element a b [1 @[", "element a b [1] @]", "element a b [@+ 1]", "element a @2 [1]", "element @[",
		"different@", "different a@", "different @2", "different a @- b", "different a @, b", "different a b @[", "different a b @1", "different a b @=",
		"different @[a b]", "different a b c @..", "different a @!= b", "different @and", "different a @and a = 1", "different a @different a b",
		"table@", "table @[]", "table a@", "table a [@", "table a [1@", "table a [1 -@]", "table a [1@, 2]", "table a b@", "table a @1]", "table a @]",
		"table a [] @[]", "table a [] @1", "table a [@a]", "table a [1 @.. 2]", "table @1 [1]", "table a [1 2] @3", "table a [@and", "table a @in []",
		"@= 0", "a@", "a =@", "a = -@", "a = @b", "a @b = 0", "a @.. b", "a = 0 @= 0", "a = 0 @+ 1", "a = 0@.. 1", "a + @= 0", "@+ a = 0", "a + @+ b = 0",
		"a - @- b = 0", "a + @- b = 0", "a - @+ b = 0", "-@- a = 0", "- @+ a = 0", "2 @a = 0", "2 @= 0", "2 * @2 = 0", "2 *@* a = 0", "2 * @- a = 0",
		"a @* 2 = 0", "a @* b = 0", "@* a = 0", "a @: b", "a @[1]", "@[a] = 0", "1 @= a", "a < @= 0", "a > @= 0", "a = @= 0", "a <= @+ 1", "a = - @- 1",
		"-@", "2@", "2*@", "a +@", "a -@", "a - 2@", "a - 2*@", "a <@", "a = 1 @1", "a = 1 @- 1", "a @and b = 0", "a = @and b = 0", "a = @true", "a + @true = 0",
		"@", "a = 1 @a = 1", "a = 1 @product a b c", "a = 1 @, b = 1", "a = 1 and @", "@and a = 1", "a = 1 and @and b = 1", "a = 1 @where b = 1",
		"true @and a = 1", "a = 1 and @true", "true @true", "true @a = 1", "true @and", "product a b c and @true", "true @, true", "@goal a = 1", "@exists",
	} {
		stops(t, letters+"; goal "+c+";", api.ErrForm)
		stops(t, letters+" where "+c+"; goal true;", api.ErrForm)
		if !strings.HasPrefix(c, "true") {
			stops(t, letters+"; goal different a b and "+c+";", api.ErrForm)
		}
	}
}

// P9.1: `true` as a list of each block, and of the goal; ahead of `and`, and behind it.
func TestTrue(t *testing.T) {
	one := api.Model{Blocks: []api.Block{{Vars: []api.Decl{{Name: "x", Dom: to(1, 2)}}}}}
	reads(t, "exists x in 1..2; goal true;", one)
	reads(t, "exists x in 1..2 where true; goal true;", one)
	one.Goal = []api.Con{{Kind: 1, Vars: []int{0}, Coefs: []int{1}, Const: 1}}
	reads(t, "exists x in 1..2 where true; goal x = 1;", one)
	stops(t, "exists x in 1..2; goal true @and x = 1;", api.ErrForm)
	stops(t, "exists x in 1..2; goal x = 1 and @true;", api.ErrForm)
	stops(t, "exists x in 1..2 where true @and x = 1; goal true;", api.ErrForm)
	stops(t, "exists x in 1..2 where x = 1 and @true; goal true;", api.ErrForm)
	stops(t, "exists x in 1..2 where true @where true; goal true;", api.ErrForm)
	stops(t, "exists x in 1..2 where @; goal true;", api.ErrForm)
	stops(t, "exists x in 1..2; goal @;", api.ErrForm)
	stops(t, "exists x in 1..2 @true; goal true;", api.ErrForm)
}

// P9.1: ranges of one number and of two, below 0, and several of one variable.
func TestRanges(t *testing.T) {
	type list = []api.Span
	for _, c := range []struct {
		text string
		dom  list
	}{
		{"0", list{{Low: 0, High: 0}}}, {"7", list{{Low: 7, High: 7}}}, {"-7", list{{Low: -7, High: -7}}}, {"- 7", list{{Low: -7, High: -7}}}, {"-0", list{{}}},
		{"1..2", list{{Low: 1, High: 2}}}, {"1 .. 2", list{{Low: 1, High: 2}}}, {"3..3", list{{Low: 3, High: 3}}}, {"-3..3", list{{Low: -3, High: 3}}},
		{"-9..-8", list{{Low: -9, High: -8}}}, {"-9..-9", list{{Low: -9, High: -9}}}, {"0..63", list{{Low: 0, High: 63}}}, {"007..0010", list{{Low: 7, High: 10}}},
		{"1048576", list{{Low: 1 << 20, High: 1 << 20}}}, {"-1048576..-1048570", list{{Low: -1 << 20, High: -1048570}}},
		{"1 3", list{{Low: 1, High: 1}, {Low: 3, High: 3}}}, {"-3 -1", list{{Low: -3, High: -3}, {Low: -1, High: -1}}}, {"-3-1", list{{Low: -3, High: -3}, {Low: -1, High: -1}}},
		{"-5..-3-1..2 9", list{{Low: -5, High: -3}, {Low: -1, High: 2}, {Low: 9, High: 9}}}, {"1 3..4 6", list{{Low: 1, High: 1}, {Low: 3, High: 4}, {Low: 6, High: 6}}},
		{"1..2 4..5 7..8 10 12", list{{Low: 1, High: 2}, {Low: 4, High: 5}, {Low: 7, High: 8}, {Low: 10, High: 10}, {Low: 12, High: 12}}},
	} {
		want := api.Model{Blocks: []api.Block{{All: true, Vars: []api.Decl{{Name: "x", Dom: c.dom}}}}}
		reads(t, "forall x in "+c.text+"; goal true;", want)
		reads(t, "forall x in "+c.text+" where true; goal true;", want)
		want.Blocks[0].Vars = append(want.Blocks[0].Vars, api.Decl{Name: "y", Dom: to(0, 0)})
		reads(t, "forall x in "+c.text+", y in 0; goal true;", want)
	}
	for _, c := range []string{
		"@", "@.. 2", "1..@", "1.. @.. 2", "-@", "1..-@", "1..2 @.. 3", "1..2@..3", "1, @2", "1 @+ 2", "1 @* 2", "@[1]", "1 @: 2", "@x", "1 @x", "1..@x", "1..@+2",
		"@true", "-@-1", "@+1", "1..-@-2", "@= 1", "1 @= 1", "1 @in 2", "@in 1", "1..@where true", "-@where true", "@where true", "1 -@", "1 3..@", "1 -3..@", "-@x 1",
	} {
		stops(t, "exists x in "+c+"; goal true;", api.ErrForm)
		stops(t, "exists x in "+c+", y in 1; goal true;", api.ErrForm)
		stops(t, "exists z in 0; forall y in 1..2 4, x in "+c+"; goal true;", api.ErrForm)
	}
}

// P9.1: several variables of a block, several blocks, with `where` and without, each with the variables that stand there.
func TestBlocks(t *testing.T) {
	reads(t, "exists a in 0, b in 1..2; forall c in 3; forall d in 4, e in 5, f in 6 where different f a d; "+
		"exists g in 7 where different a g and b = 1; goal different g f e a;", api.Model{
		Blocks: []api.Block{
			{Vars: []api.Decl{{Name: "a", Dom: to(0, 0)}, {Name: "b", Dom: to(1, 2)}}},
			{All: true, Vars: []api.Decl{{Name: "c", Dom: to(3, 3)}}},
			{All: true, Vars: []api.Decl{{Name: "d", Dom: to(4, 4)}, {Name: "e", Dom: to(5, 5)}, {Name: "f", Dom: to(6, 6)}}, Where: []api.Con{{Kind: 5, Vars: []int{5, 0, 3}}}},
			{Vars: []api.Decl{{Name: "g", Dom: to(7, 7)}}, Where: []api.Con{{Kind: 5, Vars: []int{0, 6}}, {Kind: 1, Vars: []int{1}, Coefs: []int{1}, Const: 1}}},
		},
		Goal: []api.Con{{Kind: 5, Vars: []int{6, 5, 4, 0}}},
	})
	for n := 1; n <= 16; n++ {
		text := "exists v0 in 0"
		want := api.Model{Blocks: []api.Block{{Vars: []api.Decl{{Name: "v0", Dom: to(0, 0)}}}}}
		for i := 1; i < n; i++ {
			text += ", v" + strconv.Itoa(i) + " in " + strconv.Itoa(i)
			want.Blocks[0].Vars = append(want.Blocks[0].Vars, api.Decl{Name: "v" + strconv.Itoa(i), Dom: to(i, i)})
		}
		reads(t, text+"; goal true;", want)
	}
	for n := 1; n <= 8; n++ {
		text := ""
		var want api.Model
		for i := range n {
			all, name := i%3 == 1, "x"+strconv.Itoa(i)
			text += map[bool]string{false: "exists ", true: "forall "}[all] + name + " in 0..1 where " + name + " < 1; "
			want.Blocks = append(want.Blocks, api.Block{All: all, Vars: []api.Decl{{Name: name, Dom: to(0, 1)}}, Where: []api.Con{{Kind: 1, Vars: []int{i}, Coefs: []int{1}, Rel: 2, Const: 1}}})
		}
		reads(t, text+"goal true;", want)
	}
}

// P9.1: blocks, and rows of them, that are none, and what stands behind the last `;`.
func TestNoBlocks(t *testing.T) {
	for _, marked := range []string{
		"@", "@;", "@goal true;", "@where true; goal true;", "@true", "@x in 1; goal true;", "@all x in 1; goal true;", "@1", "@-", "@existsx in 1; goal true;",
		"exists @", "exists @;", "exists @; goal true;", "exists @in 1; goal true;", "exists @exists x in 1; goal true;", "exists @forall x in 1; goal true;", "exists @1 in 1;",
		"exists @-x in 1;", "exists @, x in 1; goal true;", "exists @goal true;", "exists x @", "exists x @; goal true;", "exists x @1; goal true;", "exists x @, y in 1; goal true;",
		"exists x @= 1; goal true;", "exists x@: 1; goal true;", "exists x @y in 1; goal true;", "exists x in @", "exists x in 1 @", "exists x in 1 @y in 2; goal true;",
		"exists x in 1, @", "exists x in 1, @; goal true;", "exists x in 1,@, y in 1; goal true;", "exists x in 1, @where true; goal true;", "exists x in 1 @exists y in 1; goal true;",
		"exists x in 1 @goal true;", "exists x in 1 @and true; goal true;", "exists x in 1 where @", "exists x in 1 where @where true; goal true;", "exists x in 1 where true @",
		"exists x in 1 where true@, y in 1; goal true;", "exists x in 1 where x = 1@, y in 1; goal true;", "exists x in 1 where true @goal true;", "exists x in 1; @",
		"exists x in 1;@; goal true;", "exists x in 1; @where true; goal true;", "exists x in 1; @x = 1;", "exists x in 1; @true;", "exists x in 1; @y in 1; goal true;",
		"forall @, x in 1; goal true;", "forall x in 1, @forall y in 1; goal true;", "exists x in 1; forall @goal true;", "exists x in 1; goal @", "exists x in 1; goal @goal true;",
		"exists x in 1; goal true @", "exists x in 1; goal true @where true;", "exists x in 1; goal x = 1 @", "exists x in 1; goal true @exists y in 1; goal true;",
		"exists x in 1; goal true; @;", "exists x in 1; goal true;@;", "exists x in 1; goal true; @goal true;", "exists x in 1; goal true; @exists y in 1; goal true;",
		"exists x in 1; goal true; @x", "exists x in 1; goal true; @1", "exists x in 1; goal true;\n@true;\n", "exists x in 1; goal true; @and x = 1;", "exists x in 1; goal true; @]",
	} {
		stops(t, marked, api.ErrForm)
	}
}

// P9.1: each of the twelve words where a name must stand; and names that are like them, and ones of many bytes.
func TestNames(t *testing.T) {
	for _, w := range strings.Fields(words) {
		for _, marked := range []string{
			"exists @W in 1..2; goal true;", "forall @W in 1..2; goal true;", "exists x in 1, @W in 1..2; goal true;", "exists x in 1; forall @W in 1..2; goal true;",
			"exists x in 1, y in 1; goal product @W x y;", "exists x in 1, y in 1; goal product x @W y;", "exists x in 1, y in 1; goal product x y @W;",
			"exists x in 1, y in 1; goal iff @W x = 1;", "exists x in 1, y in 1; goal iff x @W = 1;", "exists x in 1, y in 1; goal iff x -@W = 1;",
			"exists x in 1, y in 1; goal element @W x [1];", "exists x in 1, y in 1; goal element x @W [1];", "exists x in 1, y in 1; goal different @W x;",
			"exists x in 1, y in 1; goal different x @W;", "exists x in 1, y in 1; goal table @W [];", "exists x in 1, y in 1; goal table x @W [];",
			"exists x in 1, y in 1; goal x + @W = 1;", "exists x in 1, y in 1; goal x - @W = 1;", "exists x in 1, y in 1; goal 3*@W = 1;", "exists x in 1, y in 1; goal -@W = 1;",
		} {
			stops(t, strings.ReplaceAll(marked, "W", w), api.ErrForm)
		}
		for _, name := range []string{w + "s", w + "_", w + "1", "a" + w} {
			text := "exists N in 1..2; goal N = 2;"
			reads(t, strings.ReplaceAll(text, "N", name), api.Model{
				Blocks: []api.Block{{Vars: []api.Decl{{Name: name, Dom: to(1, 2)}}}},
				Goal:   []api.Con{{Kind: 1, Vars: []int{0}, Coefs: []int{1}, Const: 2}},
			})
		}
	}
	for n := 1; n <= 40; n++ {
		name := strings.Repeat("z", n)
		if n > 12 {
			refuses(t, "exists "+name+" in 1..2; goal "+name+" = 2;", 0, api.ErrName)
			stops(t, "exists x in 1..2; goal @"+name+" = 2;", api.ErrName)
			stops(t, "exists x in 1..2; goal different x "+name+"@= 2;", api.ErrForm)
			continue
		}
		reads(t, "exists "+name+" in 1..2; goal true;", api.Model{Blocks: []api.Block{{Vars: []api.Decl{{Name: name, Dom: to(1, 2)}}}}})
	}
}

// P9.1: texts whose tokens are no tokens: the layer of tokens tells the error, and the place, whatever stands ahead.
func TestNoTokens(t *testing.T) {
	for _, ahead := range []string{"", " ", "exists ", "exists x in 0..1;\n", "exists x in 0..1; goal x = ", "goal goal goal ", "exists x in 0..1; goal y = ", "exists x in 0..1; goal true; ", "; ; "} {
		for _, c := range []struct {
			tail  string
			wrong api.Errno
		}{
			{"$", api.ErrForm}, {"$;", api.ErrForm}, {"X", api.ErrForm}, {"_x", api.ErrForm}, {".", api.ErrForm}, {"!", api.ErrForm}, {"\t", api.ErrForm}, {"\x00", api.ErrForm},
			{"\xff = 1", api.ErrForm}, {"é", api.ErrForm}, {"1099511627777", api.ErrBig}, {"1099511627777;", api.ErrBig}, {"99999999999999999999999999999;", api.ErrBig},
			{"$ 1099511627777", api.ErrForm}, {"1099511627777 $", api.ErrBig}, {"\r\n", api.ErrForm}, {"(", api.ErrForm}, {"/", api.ErrForm}, {"#", api.ErrForm},
		} {
			refuses(t, ahead+c.tail, len(ahead), c.wrong)
		}
	}
	for i := range 256 {
		if c := string([]byte{byte(i)}); !strings.Contains("abcdefghijklmnopqrstuvwxyz0123456789 \n,;:[]=<>+-*", c) {
			stops(t, "exists x in 0..1; @"+c+"goal true;", api.ErrForm)
		}
	}
	right := "exists x in 0..1; goal true;"
	spaces := strings.Repeat(" ", 4000-len(right))
	want := api.Model{Blocks: []api.Block{{Vars: []api.Decl{{Name: "x", Dom: to(0, 1)}}}}}
	reads(t, right+spaces, want)
	reads(t, spaces+right, want)
	refuses(t, right+spaces+" ", 0, api.ErrBig)
	refuses(t, " "+spaces+right, 0, api.ErrBig)
	refuses(t, "$"+spaces+right, 0, api.ErrBig)
	refuses(t, strings.Repeat("exists x in 0..1; ", 100000), 0, api.ErrBig)
}

// P9.1: what is there of a text, of no byte and of more, of spaces alone, and of text that ends with spaces: the place
// is the text's length, and not where the last token ends.
func TestEndsTooSoon(t *testing.T) {
	for _, tail := range []string{"", " ", "\n", "  \n  "} {
		for _, ahead := range []string{"", "exists", "forall", "exists x", "exists x in", "exists x in -", "exists x in 1", "exists x in 1 ..", "exists x in 1,", "exists x in 1 where",
			"exists x in 1 where true", "exists x in 1;", "exists x in 1; goal", "exists x in 1; goal true", "exists x in 1; goal -", "exists x in 1; goal 2", "exists x in 1; goal 2*",
			"exists x in 1; goal x", "exists x in 1; goal x +", "exists x in 1; goal x =", "exists x in 1; goal x = -", "exists x in 1; goal x = 1", "exists x in 1; goal x = 1 and",
			"exists x in 1; goal product", "exists x in 1; goal product x x", "exists x in 1; goal product x x x", "exists x in 1; goal iff", "exists x in 1; goal iff x", "exists x in 1; goal element x x",
			"exists x in 1; goal element x x [", "exists x in 1; goal element x x [1", "exists x in 1; goal element x x [1]", "exists x in 1; goal different x", "exists x in 1; goal different x x",
			"exists x in 1; goal table x", "exists x in 1; goal table x [", "exists x in 1; goal table x []", "exists x in 1; goal y = 1",
		} {
			refuses(t, ahead+tail, len(ahead+tail), api.ErrForm)
		}
	}
}

// tokens tells the texts of a text's tokens, and their places, and behind them the text's length.
func tokens(t *testing.T, text string) ([]string, []int) {
	t.Helper()
	l, _, e := scan.Scan(text)
	if e != api.OK {
		t.Fatalf("Scan(%q): %d", text, e)
	}
	var all []string
	var places []int
	for _, k := range l {
		all, places = append(all, k.Text), append(places, k.At)
	}
	return all, append(places, len(text))
}

// P9.1: each text, cut off ahead of each of its tokens; and with a token there that stands in no text.
func TestEachToken(t *testing.T) {
	for _, text := range texts {
		_, places := tokens(t, text)
		for i, at := range places[:len(places)-1] {
			ahead := text[:at]
			refuses(t, ahead, len(ahead), api.ErrForm)
			refuses(t, ahead+" \n", len(ahead)+2, api.ErrForm)
			stops(t, ahead+"@:"+text[at:], api.ErrForm)
			stops(t, ahead+" @: "+text[places[i+1]:], api.ErrForm)
			refuses(t, ahead+" $ "+text[at:], len(ahead)+1, api.ErrForm)
			refuses(t, ahead+" 1099511627777 "+text[at:], len(ahead)+1, api.ErrBig)
		}
		stops(t, text+"@:", api.ErrForm)
		stops(t, text+"\n@;", api.ErrForm)
	}
}

// all are tokens, of all that a text may have, and more.
var all = append(strings.Fields(words), "x", "y", "a", "i", "v", "zz", "abcdefghijklm", "0", "1", "5", "12", "1048577",
	"..", "!=", "<=", ">=", ",", ";", ":", "[", "]", "=", "<", ">", "+", "-", "*")

// P9.1: what the chapter's words alone tell, of each text with one token or two taken out, or one turned to any other
// one, or with any one put in.
func TestTurnedPlainly(t *testing.T) {
	told := map[api.Errno]int{}
	for _, text := range texts {
		l, _ := tokens(t, text)
		for i := range l {
			told[plainly(t, strings.Join(slices.Concat(l[:i], l[i+1:]), " "))]++
			told[plainly(t, strings.Join(slices.Concat(l[:i], l[min(i+2, len(l)):]), " "))]++
			for _, other := range all {
				told[plainly(t, strings.Join(slices.Concat(l[:i], []string{other}, l[i+1:]), " "))]++
				told[plainly(t, strings.Join(slices.Concat(l[:i], []string{other}, l[i:]), "\n"))]++
			}
		}
	}
	for _, e := range []api.Errno{api.OK, api.ErrForm, api.ErrName, api.ErrTwice, api.ErrArg, api.ErrWrong} {
		if told[e] == 0 {
			t.Errorf("%d was never told", e)
		}
	}
}

// P9.1: what the chapter's words alone tell, of all rows of few tokens behind some beginnings.
func TestRowsPlainly(t *testing.T) {
	some := []string{"exists", "in", "where", "and", "goal", "true", "product", "iff", "element", "table", "x", "2", "..", ",", ";", "[", "]", "=", "-", "+", "*"}
	for _, ahead := range []string{"", "exists x", "forall x in 2", "exists x in 0..2;", "exists x in 0..2 where", "exists x in 0..2; goal", "exists x in 0..2; goal x", "exists x in 0..2; goal iff x 2",
		"exists x in 0..2; goal x = 2", "exists x in 0..2; goal true;", "exists x in 0..2; goal table x", "exists x in 0..2; goal element x x"} {
		plainly(t, ahead)
		for _, a := range some {
			plainly(t, ahead+" "+a)
			for _, b := range some {
				plainly(t, ahead+" "+a+" "+b)
				for _, c := range some {
					plainly(t, ahead+" "+a+" "+b+" "+c)
				}
			}
		}
	}
}

// P9.1: names in constraints that are no variables there.
func TestLostNames(t *testing.T) {
	for _, marked := range []string{
		"exists x in 0..1; goal @y = 1;", "exists x in 0..1; goal x + @y = 1;", "exists x in 0..1; goal x - 3*@y = 1;", "exists x in 0..1; goal -@y = 1;", "exists x in 0..1; goal 2*@y = 1;",
		"exists x in 0..1; goal iff @y x = 1;", "exists x in 0..1; goal iff x @y = 1;", "exists x in 0..1; goal iff x 2*@y = 1;", "exists x in 0..1; goal iff x x - @y = 1;",
		"exists x in 0..1; goal product @y x x;", "exists x in 0..1; goal product x @y x;", "exists x in 0..1; goal product x x @y;", "exists x in 0..1; goal element @y x [1];",
		"exists x in 0..1; goal element x @y [1];", "exists x in 0..1; goal different @y x;", "exists x in 0..1; goal different x @y;", "exists x in 0..1; goal different x x x @y;",
		"exists x in 0..1; goal table @y [];", "exists x in 0..1; goal table x @y [];", "exists x in 0..1; goal table x @y [1 2];", "exists x in 0..1; goal x = 1 and @y = 1;",
		// A block's constraints have that block's variables, and those ahead, but none of one behind.
		"exists x in 0..1 where @y = 1; goal true;", "exists x in 0..1 where @y = 1; exists y in 0..1; goal y = 1;", "exists x in 0..1 where x = 1 and @y = 1; exists y in 0..1; goal true;",
		"exists x in 0..1 where different x @y; forall y in 0..1; goal true;", "exists x in 0..1; exists y in 0..1 where @z = 1; exists z in 0..1; goal true;",
		"exists x in 0..1; exists y in 0..1 where x + y + @z = 1; exists z in 0..1 where x + y + z = 1; goal x + y + z = 1;",
		// The first one is told.
		"exists x in 0..1; goal @y = 1 and z = 1;", "exists x in 0..1; goal @z = 1 and y = 1;", "exists x in 0..1; goal different @z y;", "exists x in 0..1; goal x = 1 and @q = 1 and p = 1;",
		"exists x in 0..1 where @y = 1; goal z = 1;", "exists x in 0..1 where @z = 1; exists z in 0..1 where y = 1; goal q = 1;", "exists x in 0..1 where x = 1; exists y in 0..1; goal @z = 1 and q = 1;",
		"exists x in 0..1; goal @y - y = 1;", "exists x in 0..1; goal @y = 1 and y = 1;",
		// A name is a variable's just if all its bytes are.
		"exists x in 0..1; goal @xx = 1;", "exists xx in 0..1; goal @x = 1;", "exists x in 0..1; goal @x_ = 1;", "exists x in 0..1; goal @x0 = 1;", "exists x0 in 0..1; goal @x00 = 1;",
	} {
		stops(t, marked, api.ErrName)
		stops(t, "\n "+strings.ReplaceAll(marked, "; ", " ;\n\n"), api.ErrName)
	}
	// In the goal, and in the last block, all are there.
	reads(t, "exists x in 0..1; exists y in 0..1 where x + y = 1; goal y + x = 1;", api.Model{
		Blocks: []api.Block{
			{Vars: []api.Decl{{Name: "x", Dom: to(0, 1)}}},
			{Vars: []api.Decl{{Name: "y", Dom: to(0, 1)}}, Where: []api.Con{{Kind: 1, Vars: []int{0, 1}, Coefs: []int{1, 1}, Const: 1}}},
		},
		Goal: []api.Con{{Kind: 1, Vars: []int{1, 0}, Coefs: []int{1, 1}, Const: 1}},
	})
}

// many tells a text so often, parted by another one.
func many(text, by string, n int) string {
	return strings.Join(slices.Repeat([]string{text}, n), by)
}

// blocks tells so many blocks, of a variable each.
func blocks(n int) string {
	text := ""
	for i := range n {
		text += "exists x" + strconv.Itoa(i) + " in 0..1; "
	}
	return text
}

// P9.1: each error that model.Check tells, with 0 for its place; and what is just no error yet.
func TestChecked(t *testing.T) {
	for _, c := range []struct {
		text  string
		wrong api.Errno
	}{
		{blocks(8) + "goal true;", api.OK}, {blocks(9) + "goal true;", api.ErrBig},
		{"exists x in 0..1; goal " + many("x = 1", " and ", 16) + ";", api.OK}, {"exists x in 0..1; goal " + many("x = 1", " and ", 17) + ";", api.ErrBig},
		{"exists x in 0..1 where " + many("x = 1", " and ", 16) + "; goal true;", api.OK}, {"exists x in 0..1 where " + many("x = 1", " and ", 17) + "; goal true;", api.ErrBig},
		{"exists " + many("x in 0", ", ", 16) + "; goal true;", api.ErrTwice}, {"exists " + many("x in 0", ", ", 17) + "; goal true;", api.ErrBig},
		{"exists abcdefghijkl in 0..1; goal true;", api.OK}, {"exists abcdefghijklm in 0..1; goal true;", api.ErrName}, {"exists abcdefghijklm in 0..1; goal abcdefghijklm = 1;", api.ErrName},
		{"exists x in 0..1, x in 0..1; goal true;", api.ErrTwice}, {"exists x in 0..1; forall x in 0..1; goal true;", api.ErrTwice}, {"exists x in 0..1; forall y in 2, x in 3; goal x = 1;", api.ErrTwice},
		{"exists x in 0..63; goal true;", api.OK}, {"exists x in 0..64; goal true;", api.ErrArg}, {"exists x in 1..0; goal true;", api.ErrArg}, {"exists x in 1 2; goal true;", api.ErrArg},
		{"exists x in 1..2 3..4; goal true;", api.ErrArg}, {"exists x in 3 1; goal true;", api.ErrArg}, {"exists x in 1 1; goal true;", api.ErrArg}, {"exists x in 1 -3; goal true;", api.ErrArg},
		{"exists x in 1048576; goal true;", api.OK}, {"exists x in 1048577; goal true;", api.ErrArg}, {"exists x in -1048576; goal true;", api.OK}, {"exists x in -1048577; goal true;", api.ErrArg},
		{"exists x in 1048576..1048577; goal true;", api.ErrArg}, {"exists x in 0..1099511627776; goal true;", api.ErrArg}, {"exists x in -1099511627776..1099511627776; goal true;", api.ErrArg},
		{letters + "; goal product a b b;", api.ErrWrong}, {letters + "; goal different a a;", api.ErrWrong}, {letters + "; goal different a b c d e f g h i;", api.ErrWrong},
		{letters + "; goal element a a [1];", api.ErrWrong}, {letters + "; goal element a b [" + many("1", " ", 97) + "];", api.ErrWrong}, {letters + "; goal element a b [1048577];", api.ErrWrong},
		{letters + "; goal table a [-1048577];", api.ErrWrong}, {letters + "; goal table a b [1];", api.ErrWrong}, {letters + "; goal table a b c [1 2 3 4];", api.ErrWrong},
		{letters + "; goal table a a [1 2];", api.ErrWrong}, {letters + "; goal table a [" + many("1", " ", 97) + "];", api.ErrWrong}, {letters + "; goal table a b c d e f g h i [];", api.ErrWrong},
		{letters + "; goal iff a a = 1;", api.ErrWrong}, {letters + "; goal iff a b + b = 1;", api.ErrWrong}, {letters + "; goal iff a 0*b = 1;", api.ErrWrong},
		{letters + "; goal a + a = 1;", api.ErrWrong}, {letters + "; goal a - a = 1;", api.ErrWrong}, {letters + "; goal 0*a = 1;", api.ErrWrong}, {letters + "; goal -0*a = 1;", api.ErrWrong},
		{letters + "; goal 1048577*a = 1;", api.ErrWrong}, {letters + "; goal -1048577*a = 1;", api.ErrWrong}, {letters + "; goal 1099511627776*a = 1;", api.ErrWrong},
		{letters + "; goal a+b+c+d+e+f+g+h+i = 1;", api.ErrWrong}, {letters + "; goal a = 1 and b = 1 and different c c;", api.ErrWrong}, {letters + " where different a a; goal true;", api.ErrWrong},
	} {
		m, at, e := Parse(c.text)
		if at != 0 || e != c.wrong || (e == api.OK) != (len(m.Blocks) > 0) || model.Check(m) != api.OK && e == api.OK {
			t.Errorf("Parse(%.200q): %d, %d; want %d", c.text, at, e, c.wrong)
		}
		plainly(t, c.text)
	}
}

// P9.1, R2: of two errors in one text the one named first is told, wherever it stands.
func TestTwoErrors(t *testing.T) {
	for _, c := range []struct {
		marked string
		wrong  api.Errno
	}{
		// What is no token is told ahead of all else.
		{"goal x = @$;", api.ErrForm}, {"exists x in 0..1; goal y = 1; @$", api.ErrForm}, {"exists x in 1..0; goal true; @1099511627777", api.ErrBig}, {"; ; ; @1099511627777", api.ErrBig},
		{"exists x in 0..1, x in 0..1; goal different x x and @99999999999999*x = 1;", api.ErrBig}, {"exists x in 0..1; goal y = @_ z;", api.ErrForm},
		// A token that is wrong is told ahead of names, though it stands behind them, and ahead of all that Check tells.
		{"exists x in 0..1; goal y = 1;@;", api.ErrForm}, {"exists x in 0..1; goal y = 1; @;", api.ErrForm}, {"exists x in 0..1; goal y @z;", api.ErrForm}, {"exists x in 0..1; goal y + z = @x;", api.ErrForm},
		{"exists x in 0..1 where y = 1; goal @;", api.ErrForm}, {"exists x in 0..1 where y = 1; goal true@", api.ErrForm}, {"exists x in 0..1; goal different x y @1;", api.ErrForm},
		{"exists x in 0..1 where y = 1; exists y in 0..1; goal true @and;", api.ErrForm}, {"exists x in 1..0; goal true @true;", api.ErrForm}, {"exists x in 0..1, x in 0..1; goal @= 1;", api.ErrForm},
		{"exists abcdefghijklm in 0..1; goal true; @x", api.ErrForm}, {blocks(9) + "@", api.ErrForm}, {"exists x in 0..1; goal different x x @[", api.ErrForm}, {"exists x in 0..1; goal product y z@;", api.ErrForm},
		// Names are told ahead of all that Check tells.
		{blocks(9) + "goal @y = 1;", api.ErrName}, {"exists abcdefghijklm in 0..1; goal @y = 1;", api.ErrName}, {"exists x in 0..1, x in 0..1; goal @y = 1;", api.ErrName}, {"exists x in 1..0; goal @y = 1;", api.ErrName},
		{"exists x in 0..1; goal different x x and @y = 1;", api.ErrName}, {"exists x in 0..1; goal " + many("x = 1", " and ", 16) + " and @y = 1;", api.ErrName}, {"exists x in 0..1; goal 0*@y = 1;", api.ErrName},
		{"exists x in 0..1; goal different x @y x;", api.ErrName}, {"exists x in 0..1; goal table x @y [1];", api.ErrName}, {"exists x in 0..1; goal product @abcdefghijklm x x;", api.ErrName},
	} {
		stops(t, c.marked, c.wrong)
	}
	for _, c := range []struct {
		text  string
		wrong api.Errno
	}{
		{strings.Repeat(" ", 4000) + "$", api.ErrBig}, {strings.Repeat(";", 4001), api.ErrBig}, {"exists x in 0..1; goal y = 1;" + strings.Repeat(" ", 4000), api.ErrBig},
		{blocks(9) + "goal different x0 x0;", api.ErrBig}, {blocks(8) + "exists abcdefghijklm in 1; goal true;", api.ErrBig}, {blocks(8) + "exists x0 in 1; goal true;", api.ErrBig}, {blocks(8) + "exists y in 1..0; goal true;", api.ErrBig},
		{"exists abcdefghijklm in 1, x in 1, x in 1; goal true;", api.ErrName}, {"exists x in 1..0, abcdefghijklm in 1; goal true;", api.ErrName}, {"exists abcdefghijklm in 1; goal 0*abcdefghijklm = 1;", api.ErrName},
		{"exists abcdefghijklm in 1, abcdefghijklm in 1; goal true;", api.ErrName}, {"exists x in 1..0, x in 1; goal true;", api.ErrTwice}, {"exists x in 1, x in 1; goal different x x;", api.ErrTwice},
		{"exists x in 1 where different x x; exists y in 1..0; goal true;", api.ErrArg}, {"exists x in 0..64; goal 0*x = 1;", api.ErrArg},
	} {
		refuses(t, c.text, 0, c.wrong)
		plainly(t, c.text)
	}
}

// P9.1: tokens that are parted otherwise, by nothing where they stay the same, by spaces, and by line ends, are the same
// model.
func TestParted(t *testing.T) {
	for _, text := range texts {
		want, _, _ := Parse(text)
		l, _ := tokens(t, text)
		dense := ""
		for i, token := range l {
			if i > 0 && (isName(token) || isNumber(token) || strings.Contains(words, token)) && !strings.ContainsAny(l[i-1], ",;[]=<>+-*.") {
				dense += " "
			}
			dense += token
		}
		for _, other := range []string{dense, strings.Join(l, " "), strings.Join(l, "\n"), strings.Join(l, " \n  \n"), "\n\n  " + text + "  \n", strings.ReplaceAll(text, " ", "\n"), " " + dense + "\n"} {
			reads(t, other, want)
		}
		if len(dense) >= len(text) {
			t.Errorf("%q isn't denser than %q", dense, text)
		}
	}
	// A Number ends where a letter stands.
	reads(t, "exists x in-1..1where-x<1and 2*x!=-2;goal x=-1;", api.Model{
		Blocks: []api.Block{{Vars: []api.Decl{{Name: "x", Dom: to(-1, 1)}}, Where: []api.Con{
			{Kind: 1, Vars: []int{0}, Coefs: []int{-1}, Rel: api.LT, Const: 1},
			{Kind: 1, Vars: []int{0}, Coefs: []int{2}, Rel: api.NE, Const: -2},
		}}},
		Goal: []api.Con{{Kind: 1, Vars: []int{0}, Coefs: []int{1}, Const: -1}},
	})
}

// P9.1, P9.2: models that are thrown, as texts of them: what is parsed is that model, and may be.
func TestThrown(t *testing.T) {
	d := dice(91)
	right := 0
	for range 3000 {
		m := thrownModel(&d)
		text := written(&d, m)
		if len(text) > api.MostText {
			refuses(t, text, 0, api.ErrBig)
			continue
		}
		if e := model.Check(m); e != api.OK {
			refuses(t, text, 0, e)
			continue
		}
		right++
		reads(t, text, m)
		plainly(t, text)
	}
	if right < 1000 {
		t.Errorf("%d models may be", right)
	}
}

// P9.2: what is parsed may be; where a text is wrong, all ahead is right: cut off there, it is a text, or ends too soon.
func TestWhatFollows(t *testing.T) {
	d := dice(92)
	told := map[api.Errno]int{}
	for range 20000 {
		l, _ := tokens(t, texts[d.upTo(len(texts))])
		for range 1 + d.upTo(3) {
			i, other := d.upTo(len(l)), all[d.upTo(len(all))]
			l = slices.Concat(l[:i], []string{other}[:d.upTo(2)], l[min(len(l), i+d.upTo(2)):])
		}
		text := strings.Join(l, []string{" ", "\n"}[d.upTo(2)])
		e := plainly(t, text)
		told[e]++
		m, at, _ := Parse(text)
		switch e {
		case api.OK:
			if model.Check(m) != api.OK {
				t.Errorf("Parse(%q): %v", text, m)
			}
		case api.ErrForm:
			if _, place, again := Parse(text[:at]); again == api.ErrForm && place != at {
				t.Errorf("Parse(%q): %d, %d; of the whole: %d", text[:at], place, again, at)
			}
		case api.ErrName:
			if at > 0 {
				refuses(t, text[:at], at, api.ErrForm)
			}
		}
	}
	for _, e := range []api.Errno{api.OK, api.ErrForm, api.ErrName, api.ErrArg, api.ErrWrong} {
		if told[e] < 20 {
			t.Errorf("%d was told %d times", e, told[e])
		}
	}
}

// R1: whatever bytes a text has, Parse ends, and answers no model beside an error.
func TestStrangeTexts(t *testing.T) {
	d := dice(93)
	for range 5000 {
		b := make([]byte, d.upTo(60))
		for i := range b {
			b[i] = byte(d.next() >> 16)
		}
		plainly(t, string(b))
	}
	for range 5000 {
		l := make([]string, d.upTo(12))
		for i := range l {
			l[i] = all[d.upTo(len(all))]
		}
		plainly(t, strings.Join(l, " "))
	}
	for _, c := range all {
		text := strings.TrimSpace(strings.Repeat(c+" ", 4000/(len(c)+1)))
		plainly(t, text)
		ahead := "exists x in 0..1; goal x = 1"
		plainly(t, ahead+" "+text[:len(text)-40])
	}
	longest := "exists x in 0..1; goal different" + strings.Repeat(" x", 1983)
	refuses(t, longest+";", 0, api.ErrWrong)
	refuses(t, longest, len(longest), api.ErrForm)
	refuses(t, longest+"=", len(longest), api.ErrForm)
	sum := "exists x in 0..1; goal x" + strings.Repeat("-x", 1985)
	refuses(t, sum+"=1;", 0, api.ErrWrong)
	refuses(t, sum+"-;", len(sum)+1, api.ErrForm)
}

// R3, R4, R5: models that were answered may be changed; the next answer is as it was, whatever was parsed between.
func TestAnswersShareNothing(t *testing.T) {
	for _, text := range texts {
		want, _, _ := plainParse(text)
		one, _, _ := Parse(text)
		other, _, _ := Parse(text)
		spoil(&one)
		Parse(text + "$")
		Parse(texts[0])
		if !model.Same(other, want) {
			t.Errorf("another answer became %v", other)
		}
		reads(t, text, want)
		lists := map[*int]string{}
		spans := map[*api.Span]string{}
		each(&other, func(name string, l []int) {
			if len(l) > 0 {
				if had, ok := lists[&l[0]]; ok {
					t.Errorf("%s is %s", name, had)
				}
				lists[&l[0]] = name
			}
		})
		for _, v := range declared(other) {
			if had, ok := spans[&v.Dom[0]]; ok {
				t.Errorf("the spans of %s are those of %s", v.Name, had)
			}
			spans[&v.Dom[0]] = v.Name
		}
	}
}

// declared tells a model's variables, with the lists that they have.
func declared(m api.Model) []api.Decl {
	var l []api.Decl
	for _, b := range m.Blocks {
		l = append(l, b.Vars...)
	}
	return l
}

// each goes through all lists of numbers of a model.
func each(m *api.Model, visit func(name string, l []int)) {
	for i, l := range append([][]api.Con{m.Goal}, wheres(*m)...) {
		for k, c := range l {
			name := fmt.Sprintf("constraint %d of list %d: ", k, i)
			visit(name+"Vars", c.Vars)
			visit(name+"Coefs", c.Coefs)
			visit(name+"Nums", c.Nums)
		}
	}
}

// wheres tells the constraints of a model's blocks.
func wheres(m api.Model) [][]api.Con {
	var l [][]api.Con
	for _, b := range m.Blocks {
		l = append(l, b.Where)
	}
	return l
}

// spoil changes all that a model has.
func spoil(m *api.Model) {
	each(m, func(_ string, l []int) {
		for i := range l {
			l[i] = -99
		}
		_ = append(l, 77)
	})
	for _, v := range declared(*m) {
		for i := range v.Dom {
			v.Dom[i] = api.Span{Low: 5, High: -5}
		}
		_ = append(v.Dom, api.Span{})
	}
	for i := range m.Blocks {
		clear(m.Blocks[i].Where)
		clear(m.Blocks[i].Vars)
	}
	clear(m.Blocks)
	clear(m.Goal)
}

// thrownCon is a constraint, of so many variables; most may be.
func thrownCon(d *dice, vars int) api.Con {
	pick := func(n int) []int {
		var l []int
		for range n {
			if v := d.upTo(vars); d.upTo(30) == 0 || !slices.Contains(l, v) {
				l = append(l, v)
			}
		}
		return l
	}
	nums := func(n int, room int) []int {
		var l []int
		for range n {
			l = append(l, d.upTo(2*room+1)-room)
		}
		return l
	}
	c := api.Con{Kind: 1 + d.upTo(6)}
	switch least := []int{0, 1, 3, 2, 2, 2, 1}[c.Kind]; c.Kind {
	case api.Product, api.Element:
		for c.Vars = pick(40); len(c.Vars) < least; {
			c.Vars = append(c.Vars, d.upTo(vars))
		}
		c.Vars = c.Vars[:least]
	default:
		for c.Vars = pick(1 + d.upTo(6)); len(c.Vars) < least; {
			c.Vars = append(c.Vars, d.upTo(vars))
		}
	}
	switch c.Kind {
	case api.Linear, api.Iff:
		c.Coefs, c.Rel, c.Const = nums(len(c.Vars), 1+d.upTo(1<<20)), d.upTo(6), nums(1, 1<<(1+d.upTo(40)))[0]
		for i, k := range c.Coefs {
			if k == 0 || d.upTo(3) == 0 {
				c.Coefs[i] = 1 - 2*d.upTo(2)
			}
		}
		if c.Kind == api.Iff {
			c.Coefs = c.Coefs[1:]
		}
	case api.Element:
		c.Nums = nums(1+d.upTo(8), 1+d.upTo(1<<20))
	case api.Table:
		c.Nums = nums(d.upTo(4)*len(c.Vars), 1+d.upTo(40))
	}
	return c
}

// thrownModel is a model; most may be.
func thrownModel(d *dice) api.Model {
	var m api.Model
	vars := 0
	for range 1 + d.upTo(4) {
		b := api.Block{All: d.upTo(2) == 0}
		for range 1 + d.upTo(3) {
			v := api.Decl{Name: []string{"x", "goal_", "in", "q_", "abc"}[d.upTo(5)] + strconv.Itoa(vars)}
			low := d.upTo(200) - 100
			for range 1 + d.upTo(3) {
				high := low + d.upTo(2)*d.upTo(8)
				v.Dom = append(v.Dom, api.Span{Low: low, High: high})
				low = high + 2 + d.upTo(4) - d.upTo(20)/19
			}
			b.Vars = append(b.Vars, v)
			vars++
		}
		for range d.upTo(3) {
			b.Where = append(b.Where, thrownCon(d, vars))
		}
		m.Blocks = append(m.Blocks, b)
	}
	for range d.upTo(4) {
		m.Goal = append(m.Goal, thrownCon(d, vars))
	}
	return m
}

// written is one of the texts of a model.
func written(d *dice, m api.Model) string {
	var names []string
	text := ""
	put := func(tokens ...string) {
		for _, token := range tokens {
			text += strings.Repeat([]string{" ", "\n"}[d.upTo(2)], 1+d.upTo(2)) + token
		}
	}
	number := func(n int) {
		if n < 0 {
			put("-")
			n = -n
		}
		put(strings.Repeat("0", d.upTo(20)/18) + strconv.Itoa(n))
	}
	list := func(l []api.Con) {
		if len(l) == 0 {
			put("true")
		}
		for i, c := range l {
			if i > 0 {
				put("and")
			}
			writtenCon(d, c, names, put, number)
		}
	}
	for _, b := range m.Blocks {
		put(map[bool]string{true: "forall", false: "exists"}[b.All])
		for i, v := range b.Vars {
			if i > 0 {
				put(",")
			}
			put(v.Name, "in")
			names = append(names, v.Name)
			for _, s := range v.Dom {
				number(s.Low)
				if s.Low != s.High || d.upTo(2) == 0 {
					put("..")
					number(s.High)
				}
			}
		}
		if len(b.Where) > 0 || d.upTo(4) == 0 {
			put("where")
			list(b.Where)
		}
		put(";")
	}
	put("goal")
	list(m.Goal)
	put(";")
	return text
}

// writtenCon puts out a constraint.
func writtenCon(d *dice, c api.Con, names []string, put func(...string), number func(int)) {
	vars := c.Vars
	put([]string{"product", "iff", "element", "different", "table"}[max(c.Kind, 2)-2:][:min(c.Kind-1, 1)]...)
	if c.Kind == api.Iff {
		put(names[vars[0]])
		vars = vars[1:]
	}
	for i, v := range vars {
		if len(c.Coefs) > 0 {
			k := c.Coefs[i]
			switch {
			case k < 0:
				put("-")
				k = -k
			case i > 0:
				put("+")
			}
			if k != 1 || d.upTo(3) == 0 {
				put(strconv.Itoa(k), "*")
			}
		}
		put(names[v])
	}
	if len(c.Coefs) > 0 {
		put([]string{"=", "!=", "<", "<=", ">", ">="}[c.Rel])
		number(c.Const)
		return
	}
	if c.Kind == api.Element || c.Kind == api.Table {
		put("[")
		for _, n := range c.Nums {
			number(n)
		}
		put("]")
	}
}
