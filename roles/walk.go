package roles

import (
	"cmp"
	"slices"
	"strings"

	"folkmoot/api"
	"folkmoot/lists"
	"folkmoot/names"
)

// mark says how far a role is gone through.
type mark int

const (
	unseen mark = iota
	begun
	ended
)

// goThrough marks what each of these roles is, and tells whether it came upon a ring.
func goThrough(members []api.Member, from ...string) (seen map[string]mark, ring bool) {
	seen = map[string]mark{}
	var visit func(role string)
	visit = func(role string) {
		seen[role] = begun
		for _, m := range members {
			if m.Role != role {
				continue
			}
			switch seen[m.Of] {
			case unseen:
				visit(m.Of)
			case begun: // the way here went through it
				ring = true
			}
		}
		seen[role] = ended
	}
	for _, role := range from {
		if seen[role] == unseen {
			visit(role)
		}
	}
	return seen, ring
}

func hasRing(r api.Roles) bool {
	_, ring := goThrough(r.Members, r.Names...)
	return ring
}

// is answers whether a role is another one, in roles that are right.
func is(r api.Roles, role, of string) bool {
	seen, _ := goThrough(r.Members, role)
	return seen[of] != unseen
}

func isThere(r api.Roles, name string) bool { return slices.Contains(r.Names, name) }

func namesRight(list []string) bool {
	if len(list) > api.MaxRoles {
		return false
	}
	for _, name := range list {
		if !names.Is(name) {
			return false
		}
	}
	return lists.Rise(list, strings.Compare)
}

// membersRight answers whether the members are right, but for rings.
func membersRight(r api.Roles) bool {
	for _, m := range r.Members {
		if !isThere(r, m.Role) || !isThere(r, m.Of) {
			return false
		}
	}
	return lists.Rise(r.Members, memberOrder)
}

func memberOrder(a, b api.Member) int {
	return cmp.Or(cmp.Compare(a.Role, b.Role), cmp.Compare(a.Of, b.Of))
}
