package query

import (
	"veil/api"
	"veil/word"
)

// The kinds of tokens that the grammar tells apart: finer than those of api, which have but words.
const (
	kindNone = iota // there is no token left
	kindName
	kindTitle
	kindKeyword
	kindNumber
	kindMark
)

// kindOf tells a token's kind.
func kindOf(t api.Token) int {
	switch t.Kind {
	case api.Number:
		return kindNumber
	case api.Mark:
		return kindMark
	case api.Word:
		return kindOfWord(t.Text)
	}
	return kindNone
}

func kindOfWord(text string) int {
	switch word.KindOf(text) {
	case word.Name:
		return kindName
	case word.Title:
		return kindTitle
	}
	return kindKeyword
}

// parser goes through tokens. Once one does not fit, none are left, so that whatever is asked next fails too and every loop ends.
type parser struct {
	rest []api.Token
	bad  bool
}

func (p *parser) fail() {
	p.rest, p.bad = nil, true
}

// done: did all tokens fit, and is none left?
func (p *parser) done() bool { return !p.bad && len(p.rest) == 0 }

// accept takes the next token, if it is this keyword or mark.
func (p *parser) accept(text string) bool {
	if len(p.rest) == 0 || p.rest[0].Text != text {
		return false
	}
	p.rest = p.rest[1:]
	return true
}

func (p *parser) expect(text string) {
	if !p.accept(text) {
		p.fail()
	}
}

// sees: is the next token of this kind?
func (p *parser) sees(kind int) bool {
	return len(p.rest) > 0 && kindOf(p.rest[0]) == kind
}

// take takes the next token, which must be of this kind.
func (p *parser) take(kind int) api.Token {
	if !p.sees(kind) {
		p.fail()
		return api.Token{}
	}
	t := p.rest[0]
	p.rest = p.rest[1:]
	return t
}

func (p *parser) name() string { return p.take(kindName).Text }

func (p *parser) title() string { return p.take(kindTitle).Text }

// number takes a number, which must be from least to most.
func (p *parser) number(least, most int) int {
	value := p.take(kindNumber).Value
	if value < least || value > most {
		p.fail()
	}
	return value
}

// listOf reads one thing or more, up to most, with a keyword or mark between every two.
func listOf[T any](p *parser, between string, most int, one func() T) []T {
	list := []T{one()}
	for p.accept(between) {
		list = append(list, one())
	}
	if len(list) > most {
		p.fail()
	}
	return list
}

// query reads a query; the parser knows then whether it was one.
func (p *parser) query() api.Query {
	switch {
	case p.accept("CALL"):
		return api.Query{Kind: api.Call, Name: p.name()}
	case p.accept("CREATE"):
		return p.creation()
	}
	p.expect("MATCH")
	q := api.Query{Spots: p.spots()}
	if p.accept("WHERE") {
		q.Conds = listOf(p, "AND", api.MaxConds, p.cond)
	}
	p.action(&q)
	return q
}

// creation reads what stands behind the CREATE of a make.
func (p *parser) creation() api.Query {
	p.expect("(")
	q := api.Query{Kind: api.Make, Label: p.title()}
	if p.accept("{") {
		q.Pairs = listOf(p, ",", api.MaxItems, p.pair)
		p.expect("}")
	}
	p.expect(")")
	if hasKeyTwice(q.Pairs) {
		p.fail()
	}
	return q
}

func (p *parser) pair() api.Pair {
	key := p.name()
	p.expect(":")
	return api.Pair{Key: key, Value: p.number(-api.MaxInt, api.MaxInt)}
}

func hasKeyTwice(pairs []api.Pair) bool {
	for i, pair := range pairs {
		for _, earlier := range pairs[:i] {
			if earlier.Key == pair.Key {
				return true
			}
		}
	}
	return false
}

// spots reads all paths, one behind the other: a spot without a type begins a path.
func (p *parser) spots() []api.Spot {
	list := []api.Spot{p.spot(api.Spot{})}
	for {
		switch {
		case p.accept(","):
			list = append(list, p.spot(api.Spot{}))
		case p.accept("-["):
			list = append(list, p.spot(p.step()))
		default:
			if len(list) > api.MaxSpots {
				p.fail()
			}
			return list
		}
	}
}

// step reads what stands behind -[ as a spot that has neither name nor label yet.
func (p *parser) step() api.Spot {
	step := api.Spot{Type: p.title(), Least: 1, Most: 1}
	if p.accept("*") {
		step.Least = p.number(0, api.MaxHops)
		p.expect("..")
		step.Most = p.number(step.Least, api.MaxHops)
	}
	p.expect("]->")
	return step
}

// spot reads a spot that is come to by this step.
func (p *parser) spot(step api.Spot) api.Spot {
	p.expect("(")
	step.Name = p.name()
	if p.accept(":") {
		step.Label = p.title()
	}
	p.expect(")")
	return step
}

func (p *parser) cond() api.Cond {
	c := api.Cond{A: p.term()}
	if p.accept("IS") {
		c.Op = api.IsNull
		if p.accept("NOT") {
			c.Op = api.IsSome
		}
		p.expect("NULL")
		return c
	}
	c.Op = p.comparison()
	c.B = p.term()
	return c
}

func (p *parser) comparison() int {
	for op := api.Equal; op <= api.NoLess; op++ {
		if p.accept(markOf(op)) {
			return op
		}
	}
	p.fail()
	return 0
}

// markOf tells the mark of a comparison of two terms.
func markOf(op int) string {
	switch op {
	case api.Equal:
		return "="
	case api.Unequal:
		return "<>"
	case api.Less:
		return "<"
	case api.NoMore:
		return "<="
	case api.More:
		return ">"
	case api.NoLess:
		return ">="
	}
	return ""
}

func (p *parser) term() api.Term {
	if p.sees(kindNumber) {
		return api.Term{Value: p.number(-api.MaxInt, api.MaxInt)}
	}
	name, key := p.property()
	return api.Term{Name: name, Key: key}
}

func (p *parser) property() (name, key string) {
	name = p.name()
	p.expect(".")
	return name, p.name()
}

// action reads what stands behind a match.
func (p *parser) action(q *api.Query) {
	switch {
	case p.accept("RETURN"):
		q.Kind = api.Read
		p.read(q)
	case p.accept("SET"):
		q.Kind = api.Set
		q.Name, q.Key = p.property()
		p.expect("=")
		q.Value = p.term()
	case p.accept("DELETE"):
		q.Kind = api.Delete
		q.Name = p.name()
	case p.accept("CREATE"):
		q.Kind = api.Link
		p.link(q)
	default:
		p.fail()
	}
}

// read reads what stands behind RETURN.
func (p *parser) read(q *api.Query) {
	q.Items = listOf(p, ",", api.MaxItems, p.item)
	if p.accept("ORDER") {
		p.expect("BY")
		q.Order = p.number(1, len(q.Items))
		q.Down = p.accept("DESC")
	}
	if p.accept("SKIP") {
		q.Skip = p.number(0, api.MaxInt)
	}
	q.Limit = -1
	if p.accept("LIMIT") {
		q.Limit = p.number(0, api.MaxInt)
	}
}

func (p *parser) item() api.Item {
	if p.accept("COUNT") {
		return api.Item{}
	}
	item := api.Item{Name: p.name()}
	if p.accept(".") {
		item.Key = p.name()
	}
	return item
}

// link reads what stands behind the CREATE of a link.
func (p *parser) link(q *api.Query) {
	p.expect("(")
	q.Name = p.name()
	p.expect(")")
	p.expect("-[")
	q.Type = p.title()
	p.expect("]->")
	p.expect("(")
	q.To = p.name()
	p.expect(")")
}
