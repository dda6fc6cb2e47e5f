package query

import (
	"slices"
	"strconv"

	"veil/api"
)

// hasTooMany: has a query a list longer than any query may have? (Asked first, so that no endless text is written.)
func hasTooMany(q api.Query) bool {
	return len(q.Spots) > api.MaxSpots || len(q.Conds) > api.MaxConds ||
		len(q.Items) > api.MaxItems || len(q.Pairs) > api.MaxItems
}

// same: do two queries say the same? A list without elements may be nil or not.
func same(a, b api.Query) bool {
	return a.Kind == b.Kind && a.Order == b.Order && a.Down == b.Down &&
		a.Skip == b.Skip && a.Limit == b.Limit &&
		a.Name == b.Name && a.Key == b.Key && a.Value == b.Value &&
		a.Type == b.Type && a.To == b.To && a.Label == b.Label &&
		slices.Equal(a.Spots, b.Spots) && slices.Equal(a.Conds, b.Conds) &&
		slices.Equal(a.Items, b.Items) && slices.Equal(a.Pairs, b.Pairs)
}

// writer gathers the tokens of a query. It writes whatever it is given: what is wrong then shows when it is read back.
type writer struct {
	words []string
}

func (w *writer) add(words ...string) {
	w.words = append(w.words, words...)
}

// between adds a keyword or mark ahead of all elements of a list but the first.
func (w *writer) between(i int, word string) {
	if i > 0 {
		w.add(word)
	}
}

func (w *writer) query(q api.Query) {
	switch q.Kind {
	case api.Call:
		w.add("CALL", q.Name)
		return
	case api.Make:
		w.creation(q)
		return
	}
	w.match(q)
	switch q.Kind {
	case api.Read:
		w.read(q)
	case api.Set:
		w.add("SET", q.Name, ".", q.Key, "=")
		w.term(q.Value)
	case api.Delete:
		w.add("DELETE", q.Name)
	case api.Link:
		w.add("CREATE", "(", q.Name, ")", "-[", q.Type, "]->", "(", q.To, ")")
	}
}

func (w *writer) creation(q api.Query) {
	w.add("CREATE", "(", q.Label)
	if len(q.Pairs) > 0 {
		w.add("{")
		for i, pair := range q.Pairs {
			w.between(i, ",")
			w.add(pair.Key, ":", strconv.Itoa(pair.Value))
		}
		w.add("}")
	}
	w.add(")")
}

func (w *writer) match(q api.Query) {
	w.add("MATCH")
	for i, spot := range q.Spots {
		if spot.Type == "" {
			w.between(i, ",")
		} else {
			w.step(spot)
		}
		w.spot(spot)
	}
	for i, c := range q.Conds {
		if i == 0 {
			w.add("WHERE")
		}
		w.between(i, "AND")
		w.cond(c)
	}
}

func (w *writer) step(spot api.Spot) {
	w.add("-[", spot.Type)
	if spot.Least != 1 || spot.Most != 1 {
		w.add("*", strconv.Itoa(spot.Least), "..", strconv.Itoa(spot.Most))
	}
	w.add("]->")
}

func (w *writer) spot(spot api.Spot) {
	w.add("(", spot.Name)
	if spot.Label != "" {
		w.add(":", spot.Label)
	}
	w.add(")")
}

func (w *writer) cond(c api.Cond) {
	w.term(c.A)
	switch c.Op {
	case api.IsNull:
		w.add("IS", "NULL")
	case api.IsSome:
		w.add("IS", "NOT", "NULL")
	default:
		w.add(markOf(c.Op))
		w.term(c.B)
	}
}

func (w *writer) term(t api.Term) {
	if t.Name == "" {
		w.add(strconv.Itoa(t.Value))
		return
	}
	w.add(t.Name, ".", t.Key)
}

func (w *writer) read(q api.Query) {
	w.add("RETURN")
	for i, item := range q.Items {
		w.between(i, ",")
		w.item(item)
	}
	if q.Order != 0 {
		w.add("ORDER", "BY", strconv.Itoa(q.Order))
		if q.Down {
			w.add("DESC")
		}
	}
	if q.Skip != 0 {
		w.add("SKIP", strconv.Itoa(q.Skip))
	}
	if q.Limit != -1 {
		w.add("LIMIT", strconv.Itoa(q.Limit))
	}
}

func (w *writer) item(item api.Item) {
	switch {
	case item.Name == "":
		w.add("COUNT")
	case item.Key == "":
		w.add(item.Name)
	default:
		w.add(item.Name, ".", item.Key)
	}
}
