package roles_test

import (
	"math/rand"
	"slices"
	"testing"

	"folkmoot/api"
	"folkmoot/roles"
)

// model is roles as a reckoner of its own keeps them: in no order, by maps.
type model struct {
	names   map[string]bool
	members map[api.Member]bool
}

func (m model) is(role, of string) bool {
	if role == of {
		return true
	}
	for x := range m.members {
		if x.Role == role && m.is(x.Of, of) {
			return true
		}
	}
	return false
}

func (m model) roles() api.Roles {
	var r api.Roles
	for name := range m.names {
		r.Names = append(r.Names, name)
	}
	slices.Sort(r.Names)
	for _, role := range r.Names {
		for _, of := range r.Names {
			if m.members[api.Member{Role: role, Of: of}] {
				r.Members = append(r.Members, api.Member{Role: role, Of: of})
			}
		}
	}
	return r
}

func (m model) add(name string) api.Errno {
	switch {
	case slices.Contains(noNames, name):
		return api.ErrArg
	case m.names[name]:
		return api.ErrRoleThere
	case len(m.names) == 16:
		return api.ErrLimit
	}
	m.names[name] = true
	return api.OK
}

func (m model) drop(name string) api.Errno {
	if !m.names[name] {
		return api.ErrRoleNone
	}
	for x := range m.members {
		if x.Role == name || x.Of == name {
			return api.ErrRoleUsed
		}
	}
	delete(m.names, name)
	return api.OK
}

func (m model) join(x api.Member) api.Errno {
	switch {
	case !m.names[x.Role] || !m.names[x.Of]:
		return api.ErrRoleNone
	case m.members[x]:
		return api.ErrRoleThere
	case m.is(x.Of, x.Role):
		return api.ErrRoleRing
	}
	m.members[x] = true
	return api.OK
}

func (m model) leave(x api.Member) api.Errno {
	if !m.members[x] {
		return api.ErrRoleNone
	}
	delete(m.members, x)
	return api.OK
}

// drawn answers a call, and what the model answers to it; names and members are drawn out of few, so that they often meet.
func drawn(d *rand.Rand, m model, r api.Roles) (call, api.Errno) {
	name := func() string {
		switch d.Intn(30) {
		case 0:
			return noNames[d.Intn(len(noNames))]
		case 1:
			return "none"
		}
		return string(rune('a'+d.Intn(6))) + []string{"", "0", "_", "a"}[d.Intn(4)]
	}
	other := func() string { // most often one that is there
		if len(r.Names) > 0 && d.Intn(8) > 0 {
			return r.Names[d.Intn(len(r.Names))]
		}
		return name()
	}
	switch d.Intn(9) {
	case 0, 1:
		x := name()
		return add(x), m.add(x)
	case 2:
		x := other()
		return drop(x), m.drop(x)
	case 3:
		if len(r.Members) > 0 {
			x := r.Members[d.Intn(len(r.Members))]
			return leave(x.Role, x.Of), m.leave(x)
		}
		fallthrough
	case 4:
		x := api.Member{Role: other(), Of: other()}
		return leave(x.Role, x.Of), m.leave(x)
	}
	x := api.Member{Role: other(), Of: other()}
	return join(x.Role, x.Of), m.join(x)
}

func TestWalk(t *testing.T) { // P8.1 to P8.5, R1, R2: calls one behind the other, held against a model
	seen := map[api.Errno]int{}
	for seed := range 60 {
		d := rand.New(rand.NewSource(int64(seed)))
		m := model{map[string]bool{}, map[api.Member]bool{}}
		r := api.Roles{}
		for range 150 {
			c, want := drawn(d, m, r)
			seen[want]++
			if want != api.OK {
				refused(t, r, c, want)
			} else {
				gives(t, r, c, m.roles())
			}
			r = m.roles()
			x, y, z := place(d, r), place(d, r), place(d, r)
			if is := roles.Is(r, x, y); is != (m.names[x] && m.is(x, y)) {
				t.Errorf("%v: Is %s %s: %t", r, x, y, is)
			}
			if roles.Is(r, x, y) && roles.Is(r, y, z) && !roles.Is(r, x, z) {
				t.Errorf("%v: %s is %s, and that %s, but %s is not", r, x, y, z, x)
			}
			if t.Failed() {
				t.Fatalf("seed %d: %s", seed, c.name)
			}
		}
		tells(t, r)
	}
	for _, code := range []api.Errno{api.OK, api.ErrArg, api.ErrLimit, api.ErrRoleThere, api.ErrRoleNone, api.ErrRoleRing, api.ErrRoleUsed} {
		if seen[code] == 0 {
			t.Errorf("%d never came", code)
		}
	}
}

// place answers one of the names, or one that is not there.
func place(d *rand.Rand, r api.Roles) string {
	if i := d.Intn(len(r.Names) + 1); i < len(r.Names) {
		return r.Names[i]
	}
	return "none"
}
