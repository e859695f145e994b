package show

import (
	"fmt"
	"slices"
	"strings"

	"stratagem/api"
	"stratagem/model"
)

// dice tells numbers that look thrown, the same ones in each run.
type dice uint64

func (d *dice) upTo(n int) int {
	*d = *d*6364136223846793005 + 1442695040888963407
	return int(uint64(*d) >> 33 % uint64(n))
}

// hand is a way to write what may be written in several ways; the zero hand writes as the chapter says.
type hand struct {
	twice bool // a range of one number as two
	ones  bool // 1 and * ahead of a name that has no other number there
	where bool // an empty Where as true
	zeros bool // 0 ahead of each number
	minus bool // - ahead of 0
}

// signed is a number, its sign parted from it.
func (h hand) signed(n int) string {
	text := strings.Replace(fmt.Sprint(n), "-", "- ", 1)
	if h.minus && n == 0 {
		text = "- 0"
	}
	if h.zeros {
		at := strings.LastIndex(text, " ") + 1
		text = text[:at] + "00" + text[at:]
	}
	return text
}

// sum is a sum, and what it compares to: all its terms with signs and coefficients, of which the needless ones are
// taken out.
func (h hand) sum(c api.Con, names []string) string {
	text := ""
	for i, k := range c.Coefs {
		text += fmt.Sprintf(" %+d * %s", k, names[i])
	}
	text = strings.NewReplacer(" +", " + ", " -", " - ").Replace(text)
	if !h.ones {
		text = strings.ReplaceAll(text, " 1 * ", " ")
	}
	rels := []string{" = ", " != ", " < ", " <= ", " > ", " >= "}
	return strings.TrimPrefix(strings.TrimPrefix(text, " "), "+ ") + rels[c.Rel] + h.signed(c.Const)
}

// con is a constraint, of variables of these names.
func (h hand) con(c api.Con, names []string) string {
	var own []string
	for _, v := range c.Vars {
		own = append(own, names[v])
	}
	row := strings.Join(own, " ")
	nums := " ["
	for _, n := range c.Nums {
		nums += " " + h.signed(n)
	}
	nums += " ]"
	return map[int]func() string{
		api.Linear:  func() string { return h.sum(c, own) },
		api.Product: func() string { return "product " + row },
		api.Iff:     func() string { return "iff " + own[0] + " " + h.sum(c, own[1:]) },
		api.Element: func() string { return "element " + row + nums },
		api.Differ:  func() string { return "different " + row },
		api.Table:   func() string { return "table " + row + nums },
	}[c.Kind]()
}

// list is a list of constraints.
func (h hand) list(l []api.Con, names []string) string {
	var texts []string
	for _, c := range l {
		texts = append(texts, h.con(c, names))
	}
	if len(l) == 0 {
		return "true"
	}
	return strings.Join(texts, " and ")
}

// decl is a variable.
func (h hand) decl(d api.Decl) string {
	text := d.Name + " in"
	for _, s := range d.Dom {
		text += " " + h.signed(s.Low)
		if s.Low != s.High || h.twice {
			text += " .. " + h.signed(s.High)
		}
	}
	return text
}

// text is a model, that may be, a line a block.
func (h hand) text(m api.Model) string {
	text := ""
	names := namesOf(m)
	for _, b := range m.Blocks {
		var decls []string
		for _, d := range b.Vars {
			decls = append(decls, h.decl(d))
		}
		text += map[bool]string{true: "forall ", false: "exists "}[b.All] + strings.Join(decls, " , ")
		if h.where || len(b.Where) > 0 {
			text += " where " + h.list(b.Where, names)
		}
		text += " ;\n"
	}
	return text + "goal " + h.list(m.Goal, names) + " ;\n"
}

// namesOf tells the names of all variables of a model.
func namesOf(m api.Model) []string {
	var names []string
	for _, d := range model.Vars(m) {
		names = append(names, d.Name)
	}
	return names
}

// thrownNum is a number up to another one, to both sides; often one near 0.
func thrownNum(d *dice, most int) int {
	if d.upTo(2) == 0 {
		most = min(most, 2)
	}
	return d.upTo(2*most+1) - most
}

// thrownCon is a constraint that may be, of so many variables, its numbers up to another one.
func thrownCon(d *dice, vars, most int) api.Con {
	for {
		c := api.Con{Kind: 1 + d.upTo(6)}
		for range 1 + d.upTo(9) {
			if v := d.upTo(vars); !slices.Contains(c.Vars, v) {
				c.Vars = append(c.Vars, v)
			}
		}
		nums := 0
		switch c.Kind {
		case api.Linear, api.Iff:
			for range len(c.Vars) - (c.Kind-api.Linear)/2 {
				c.Coefs = append(c.Coefs, thrownNum(d, most))
			}
			c.Rel, c.Const = d.upTo(6), thrownNum(d, most*most)
		case api.Element:
			nums = 1 + d.upTo(4)
		case api.Table:
			nums = len(c.Vars) * d.upTo(4)
		}
		for range nums {
			c.Nums = append(c.Nums, thrownNum(d, most))
		}
		if model.Right(c, vars) {
			return c
		}
	}
}

// thrownModel is a model that may be, with so many blocks and constraints of a list at most, and numbers up to another
// one.
func thrownModel(d *dice, blocks, cons, most int) api.Model {
	var m api.Model
	vars := 0
	for range 1 + d.upTo(blocks) {
		b := api.Block{All: d.upTo(2) == 0}
		for range 1 + d.upTo(2) {
			b.Vars = append(b.Vars, api.Decl{Name: []string{"x", "in_", "goal"}[d.upTo(3)] + fmt.Sprint(vars), Dom: thrownDom(d, most)})
			vars++
		}
		for range d.upTo(cons + 1) {
			b.Where = append(b.Where, thrownCon(d, vars, most))
		}
		m.Blocks = append(m.Blocks, b)
	}
	for range d.upTo(cons + 1) {
		m.Goal = append(m.Goal, thrownCon(d, vars, most))
	}
	return m
}

// thrownDom is spans that may be a variable's.
func thrownDom(d *dice, most int) []api.Span {
	l := []api.Span{{Low: thrownNum(d, most-60)}}
	l[0].High = l[0].Low + d.upTo(3)
	for range d.upTo(3) {
		low := l[len(l)-1].High + 2 + d.upTo(3)
		l = append(l, api.Span{Low: low, High: low + d.upTo(2)*d.upTo(9)})
	}
	return l
}
