package veil

import (
	"veil/api"
	"veil/read"
	"veil/rights"
	"veil/sight"
)

// view is a read that is asked with the eyes of the role that made it, whoever calls it.
type view struct {
	name  string
	role  rights.Role
	query api.Query
}

// viewNamed finds a view by its name.
func (g *Graph) viewNamed(name string) (view, bool) {
	for _, v := range g.views {
		if v.name == name {
			return v, true
		}
	}
	return view{}, false
}

// call asks a view for a role (P13). The call is written down ahead of its answer: it stands in the audit even if the budget is not enough.
func (g *Graph) call(who rights.Role, name string, budget int) ([]string, api.Errno) {
	v, there := g.viewNamed(name)
	switch {
	case !there:
		return nil, api.ErrView
	case !who.May(rights.Right{Verb: rights.Call, Of: name}):
		return nil, api.ErrDenied
	}
	g.audit = append(g.audit, who.Name+" "+v.name)
	return read.Answer(sight.Of(&g.all, v.role), v.query, budget)
}
