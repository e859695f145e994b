package parse

import (
	"slices"
	"strconv"
	"strings"

	"stratagem/api"
	"stratagem/model"
	"stratagem/scan"
)

// walk is a way through tokens: how many of them were read by any form, at the most.
type walk struct {
	tokens []string
	far    int
}

// form tells at which tokens what it is may end that begins at a token: all that may be, not the first one alone.
type form func(w *walk, at int) []int

// the is a token for which something is true.
func the(is func(token string) bool) form {
	return func(w *walk, at int) []int {
		if at == len(w.tokens) || !is(w.tokens[at]) {
			return nil
		}
		w.far = max(w.far, at+1)
		return []int{at + 1}
	}
}

// oneOf is a token that is one of some.
func oneOf(texts ...string) form {
	return the(func(token string) bool { return slices.Contains(texts, token) })
}

// once tells ends without those that stand twice.
func once(ends []int) []int {
	slices.Sort(ends)
	return slices.Compact(ends)
}

// row is some forms, one behind the other.
func row(forms ...form) form {
	return func(w *walk, at int) []int {
		ends := []int{at}
		for _, f := range forms {
			var next []int
			for _, end := range ends {
				next = append(next, f(w, end)...)
			}
			ends = once(next)
		}
		return ends
	}
}

// either is one of some forms.
func either(forms ...form) form {
	return func(w *walk, at int) []int {
		var ends []int
		for _, f := range forms {
			ends = append(ends, f(w, at)...)
		}
		return once(ends)
	}
}

// maybe is a form, or nothing.
func maybe(f form) form {
	return either(f, row())
}

// some is a form, again and again, so often at least.
func some(f form, least int) form {
	return func(w *walk, at int) []int {
		last := row(slices.Repeat([]form{f}, least)...)(w, at)
		ends := slices.Clone(last)
		for len(last) > 0 {
			var next []int
			for _, end := range last {
				next = append(next, f(w, end)...)
			}
			last = once(next)
			ends = append(ends, last...)
		}
		return once(ends)
	}
}

// words are those that are no names.
const words = "exists forall in where and goal true product iff element different table"

// isName tells whether a token is a name, isNumber whether it is a Number.
func isName(token string) bool {
	return token[0] >= 'a' && token[0] <= 'z' && !slices.Contains(strings.Fields(words), token)
}

func isNumber(token string) bool {
	return token[0] >= '0' && token[0] <= '9'
}

// grammar is the chapter's list, line by line.
func grammar() form {
	name, digits := the(isName), the(isNumber)
	number := row(maybe(oneOf("-")), digits)
	span := row(number, maybe(row(oneOf(".."), number)))
	variable := row(name, oneOf("in"), some(span, 1))
	term := either(name, row(digits, oneOf("*"), name))
	sum := row(maybe(oneOf("-")), term, some(row(oneOf("+", "-"), term), 0), oneOf("=", "!=", "<", "<=", ">", ">="), number)
	con := either(
		row(oneOf("product"), name, name, name),
		row(oneOf("iff"), name, sum),
		row(oneOf("element"), name, name, oneOf("["), some(number, 1), oneOf("]")),
		row(oneOf("different"), some(name, 2)),
		row(oneOf("table"), some(name, 1), oneOf("["), some(number, 0), oneOf("]")),
		sum,
	)
	list := either(oneOf("true"), row(con, some(row(oneOf("and"), con), 0)))
	block := row(oneOf("exists", "forall"), variable, some(row(oneOf(","), variable), 0), maybe(row(oneOf("where"), list)), oneOf(";"))
	return row(some(block, 1), oneOf("goal"), list, oneOf(";"))
}

// stuck tells how many tokens can go on as a text of a model, and whether all are one.
func stuck(tokens []string) (int, bool) {
	w := walk{tokens: tokens}
	ends := grammar()(&w, 0)
	return w.far, slices.Contains(ends, len(tokens))
}

// split tells the parts of tokens between those of a text.
func split(tokens []string, at string) [][]string {
	var parts [][]string
	for {
		i := slices.Index(tokens, at)
		if i < 0 {
			return append(parts, tokens)
		}
		parts, tokens = append(parts, tokens[:i]), tokens[i+1:]
	}
}

// plainNumbers tells the numbers of tokens that are Numbers, each with `-` ahead, or without.
func plainNumbers(tokens []string) []int {
	var l []int
	sign := ""
	for _, token := range tokens {
		if token == "-" {
			sign = "-"
			continue
		}
		n, err := strconv.Atoi(sign + token)
		if err != nil {
			panic(err)
		}
		l, sign = append(l, n), ""
	}
	return l
}

// plainVars tells the numbers of names, of these variables: the first one that has each.
func plainVars(names, vars []string) []int {
	var l []int
	for _, name := range names {
		l = append(l, slices.Index(vars, name))
	}
	return l
}

// plainSum tells the parts of a sum: the names, coefficients, rel and number.
func plainSum(tokens []string) (names []string, coefs []int, rel, number int) {
	at := slices.IndexFunc(tokens, func(token string) bool { return strings.Contains(" = != < <= > >= ", " "+token+" ") })
	rel = slices.Index([]string{"=", "!=", "<", "<=", ">", ">="}, tokens[at])
	number = plainNumbers(tokens[at+1:])[0]
	coef := 1
	for _, token := range tokens[:at] {
		switch {
		case token == "-":
			coef = -1
		case isNumber(token):
			coef *= plainNumbers([]string{token})[0]
		case isName(token):
			names, coefs = append(names, token), append(coefs, coef)
			coef = 1
		}
	}
	return names, coefs, rel, number
}

// plainCon tells the constraint that tokens are, of these variables.
func plainCon(tokens, vars []string) api.Con {
	c := api.Con{Kind: slices.Index([]string{"product", "iff", "element", "different", "table"}, tokens[0]) + 2}
	var names []string
	switch {
	case c.Kind == 1:
		names, c.Coefs, c.Rel, c.Const = plainSum(tokens)
	case c.Kind == 3:
		names, c.Coefs, c.Rel, c.Const = plainSum(tokens[2:])
		names = append([]string{tokens[1]}, names...)
	case slices.Contains(tokens, "["):
		at := slices.Index(tokens, "[")
		names, c.Nums = tokens[1:at], plainNumbers(tokens[at+1:len(tokens)-1])
	default:
		names = tokens[1:]
	}
	c.Vars = plainVars(names, vars)
	return c
}

// plainList tells the constraints of a list, of these variables.
func plainList(tokens, vars []string) []api.Con {
	var l []api.Con
	if tokens[0] == "true" {
		return nil
	}
	for _, part := range split(tokens, "and") {
		l = append(l, plainCon(part, vars))
	}
	return l
}

// plainDecl tells the variable that tokens are.
func plainDecl(tokens []string) api.Decl {
	d := api.Decl{Name: tokens[0]}
	signed := ""
	for at, token := range tokens[2:] {
		signed += token
		// A range goes on behind `-`, behind `..`, and ahead of `..`.
		if token == "-" || token == ".." || at+3 < len(tokens) && tokens[at+3] == ".." {
			continue
		}
		low, high, two := strings.Cut(signed, "..")
		if !two {
			high = low
		}
		a, _ := strconv.Atoi(low)
		b, _ := strconv.Atoi(high)
		d.Dom, signed = append(d.Dom, api.Span{Low: a, High: b}), ""
	}
	return d
}

// plainModel tells the model that tokens are, of which it is known that they are a text of one.
func plainModel(tokens []string) api.Model {
	var m api.Model
	var vars []string
	for _, part := range split(tokens, ";") {
		switch {
		case len(part) == 0:
		case part[0] == "goal":
			m.Goal = plainList(part[1:], vars)
		default:
			b := api.Block{All: part[0] == "forall"}
			halves := split(part[1:], "where")
			for _, d := range split(halves[0], ",") {
				b.Vars, vars = append(b.Vars, plainDecl(d)), append(vars, d[0])
			}
			if len(halves) == 2 {
				b.Where = plainList(halves[1], vars)
			}
			m.Blocks = append(m.Blocks, b)
		}
	}
	return m
}

// lost tells the first name in a constraint that is no variable there, of tokens that are a text of a model; -1, if
// there is none.
func lost(tokens []string) int {
	var vars []string
	inside := false
	for i, token := range tokens {
		switch {
		case token == "where" || token == "goal":
			inside = true
		case token == ";":
			inside = false
		case isName(token) && !inside:
			vars = append(vars, token)
		case isName(token) && !slices.Contains(vars, token):
			return i
		}
	}
	return -1
}

// plainParse tells what Parse answers, by the chapter's words alone.
func plainParse(text string) (api.Model, int, api.Errno) {
	l, at, e := scan.Scan(text)
	if e != api.OK {
		return api.Model{}, at, e
	}
	var tokens []string
	places := []int{}
	for _, k := range l {
		tokens, places = append(tokens, k.Text), append(places, k.At)
	}
	places = append(places, len(text))
	if far, whole := stuck(tokens); !whole {
		return api.Model{}, places[far], api.ErrForm
	}
	if i := lost(tokens); i >= 0 {
		return api.Model{}, places[i], api.ErrName
	}
	m := plainModel(tokens)
	if e := model.Check(m); e != api.OK {
		return api.Model{}, 0, e
	}
	return m, 0, api.OK
}
