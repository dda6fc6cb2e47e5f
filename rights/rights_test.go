package rights_test

import (
	"strings"
	"testing"

	"veil/rights"
)

// lines has one line for each right, and the right.
var lines = []struct {
	text  string
	right rights.Right
}{
	{"see A", rights.Right{Verb: rights.See, Of: "A"}},
	{"walk A", rights.Right{Verb: rights.Walk, Of: "A"}},
	{"read A.k", rights.Right{Verb: rights.Read, Of: "A", Key: "k"}},
	{"make A", rights.Right{Verb: rights.Make, Of: "A"}},
	{"set A.k", rights.Right{Verb: rights.Set, Of: "A", Key: "k"}},
	{"drop A", rights.Right{Verb: rights.Drop, Of: "A"}},
	{"link A", rights.Right{Verb: rights.Link, Of: "A"}},
	{"cut A", rights.Right{Verb: rights.Cut, Of: "A"}},
	{"call v", rights.Right{Verb: rights.Call, Of: "v"}},
	{"detach", rights.Right{Verb: rights.Detach}},
}

// role reads a policy and finds a role of it.
func role(t *testing.T, policy, name string) rights.Role {
	t.Helper()
	p, ok := rights.Parse(policy)
	if !ok {
		t.Fatalf("Parse(%q) could not be read", policy)
	}
	r, there := p.Role(name)
	if !there || r.Name != name {
		t.Fatalf("Parse(%q).Role(%q) = %v, %v", policy, name, r, there)
	}
	return r
}

// A line gives its own right, and no other.
func TestEachRightAlone(t *testing.T) {
	for _, line := range lines {
		r := role(t, "role a\n"+line.text, "a")
		for _, other := range lines {
			if got := r.May(other.right); got != (other == line) {
				t.Errorf("%q: May(%v) = %v", line.text, other.right, got)
			}
		}
	}
}

func TestRightsHangOnTheirObjects(t *testing.T) {
	r := role(t, "role a\nsee A\nread A.k\nread B.j\ncall v", "a")
	for _, right := range []rights.Right{
		{Verb: rights.See, Of: "B"}, {Verb: rights.See}, {Verb: rights.See, Of: "A", Key: "k"},
		{Verb: rights.Read, Of: "A"}, {Verb: rights.Read, Of: "A", Key: "j"}, {Verb: rights.Read, Of: "B", Key: "k"}, {Verb: rights.Read, Of: "A.k"},
		{Verb: rights.Call, Of: "w"}, {Verb: rights.None}, {Verb: rights.None, Of: "A"}, {},
	} {
		if r.May(right) {
			t.Errorf("May(%v)", right)
		}
	}
}

// A right is that of the role whose line stands last above it.
func TestRightsOfRoles(t *testing.T) {
	const policy = "role a\nsee A\nrole b\nsee B\nsee B\nrole c\n"
	see := func(label string) rights.Right { return rights.Right{Verb: rights.See, Of: label} }
	for _, c := range []struct{ role, labels string }{{"a", "A"}, {"b", "B"}, {"c", ""}} {
		r := role(t, policy, c.role)
		for _, label := range []string{"A", "B"} {
			if got := r.May(see(label)); got != (label == c.labels) {
				t.Errorf("role %s: May see %s = %v", c.role, label, got)
			}
		}
	}
}

func TestNoSuchRole(t *testing.T) {
	p, ok := rights.Parse("role a\nrole b")
	if !ok {
		t.Fatal("could not be read")
	}
	for _, name := range []string{"", "c", "A", "a ", "role", "role a", "ab"} {
		if r, there := p.Role(name); there || r.Name != "" {
			t.Errorf("Role(%q) = %v, %v", name, r, there)
		}
	}
}

// long is a policy of 7 + 331*6 + 5 bytes, and those of the last label.
func long(label string) string {
	return "role a\n" + strings.Repeat("see A\n", 331) + "see " + label + "\n"
}

func TestPoliciesThatCanBeRead(t *testing.T) {
	if len(long("AB")) != 2000 {
		t.Fatalf("%d bytes", len(long("AB")))
	}
	for _, policy := range []string{
		"", "role a", "role a\n", "role abcdefgh", "role a\nsee ABCDEFGH", "role a\nread ABCDEFGH.abcdefgh",
		"role a\nrole b\nrole c\nrole d\nrole e\nrole f", "role a\nrole b\nrole c\nrole d\nrole e\nrole f\nsee A\n",
		"role match\nsee Match", "role a\nsee A\nsee A\ndetach\ndetach\n", long("AB"),
	} {
		if _, ok := rights.Parse(policy); !ok {
			t.Errorf("Parse(%.60q) could not be read", policy)
		}
	}
}

func TestPoliciesThatCannotBeRead(t *testing.T) {
	policies := []string{
		"\n", "\n\n", " ", "role a\n\n", "\nrole a", "role a\n\nsee A", "role a\r\n", "role a\rsee A",
		"role", "role ", "role A", "role 1", "role  a", " role a", "role a ", "role a b", "role\ta", "Role a", "ROLE a", "rolea", "role abcdefghi", "role a.b", "roles a",
		"role a\nrole a", "role a\nrole b\nrole a", "role a\nrole b\nrole c\nrole d\nrole e\nrole f\nrole g", "role a\nrole b\nrole c\nrole d\nrole e\nrole f\nrole a",
		long("ABC"), strings.Repeat("x", 2001), strings.Repeat("\n", 2001),
	}
	for _, line := range lines {
		policies = append(policies, line.text, line.text+"\nrole a")
		for _, wrong := range []string{line.text + " ", " " + line.text, line.text + ".", line.text + "\r", line.text + " A", line.text + ".k.j", strings.ToUpper(line.text), strings.Replace(line.text, " ", "  ", 1) + " ", strings.Replace(line.text, " ", "\t", 1) + "\t"} {
			policies = append(policies, "role a\n"+wrong)
		}
	}
	for _, verb := range []string{"see", "walk", "make", "drop", "link", "cut"} {
		for _, object := range []string{"", " ", " a", " MATCH", " COUNT", " A.k", " ABCDEFGHI", "  A", " A B", ".A", " 1"} {
			policies = append(policies, "role a\n"+verb+object)
		}
	}
	for _, verb := range []string{"read", "set"} {
		for _, object := range []string{"", " ", " A", " a.k", " A.K", " A.", " .k", " .", " A..k", " A .k", " A. k", " A.k.j", " SET.k", " A.COUNT", " ABCDEFGHI.k", " A.abcdefghi", "  A.k", " A.1", " A k"} {
			policies = append(policies, "role a\n"+verb+object)
		}
	}
	for _, rest := range []string{"call", "call ", "call V", "call CALL", "call v.w", "call  v", "call abcdefghi", "detach A", "detach a", "detach ", "Detach", "sing A", "A", "see"} {
		policies = append(policies, "role a\n"+rest)
	}
	for _, policy := range policies {
		if p, ok := rights.Parse(policy); ok {
			t.Errorf("Parse(%.60q) could be read", policy)
		} else if _, there := p.Role("a"); there {
			t.Errorf("Parse(%.60q) has a role, though it could not be read", policy)
		}
	}
}
