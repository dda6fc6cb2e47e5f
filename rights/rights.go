// Package rights reads which role may do what.
package rights

import (
	"strings"

	"veil/api"
	"veil/word"
)

// Role is a role with its rights.
type Role struct {
	Name   string
	rights map[Right]struct{}
}

// May: does the role have this right?
func (r Role) May(right Right) bool {
	_, has := r.rights[right]
	return has
}

// Policy has all roles.
type Policy struct {
	roles []Role
}

// Role finds a role by its name.
func (p Policy) Role(name string) (Role, bool) {
	for _, role := range p.roles {
		if role.Name == name {
			return role, true
		}
	}
	return Role{}, false
}

// Parse reads a policy (P7); it answers whether it could be read.
func Parse(text string) (Policy, bool) {
	if len(text) > api.MaxText {
		return Policy{}, false
	}
	var p Policy
	// The names that are kept are pieces of a copy, not of what was handed in.
	for _, line := range linesOf(strings.Clone(text)) {
		if !p.addRole(line) && !p.addRight(line) {
			return Policy{}, false
		}
	}
	return p, true
}

// linesOf cuts a text into lines; a line feed at its end does not begin one more.
func linesOf(text string) []string {
	if text == "" {
		return nil
	}
	return strings.Split(strings.TrimSuffix(text, "\n"), "\n")
}

// addRole takes in a line that begins a role, if it may.
func (p *Policy) addRole(line string) bool {
	name, begins := strings.CutPrefix(line, "role ")
	if !begins || word.KindOf(name) != word.Name || len(p.roles) == api.MaxRoles {
		return false
	}
	if _, twice := p.Role(name); twice {
		return false
	}
	p.roles = append(p.roles, Role{Name: name, rights: map[Right]struct{}{}})
	return true
}

// addRight takes in a line that gives the last role a right, if it does.
func (p *Policy) addRight(line string) bool {
	right, is := rightOf(line)
	if !is || len(p.roles) == 0 {
		return false
	}
	p.roles[len(p.roles)-1].rights[right] = struct{}{}
	return true
}
