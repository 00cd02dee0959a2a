package roles_test

import (
	"slices"
	"testing"

	"folkmoot/api"
	"folkmoot/roles"
)

func TestExamples(t *testing.T) { // P8.2 to P8.4
	r := example()
	all(t, r, "a", []string{"a", "b", "c"}, api.OK)
	all(t, r, "c", []string{"c"}, api.OK)
	all(t, r, "d", nil, api.ErrRoleNone)
	each(t, r, "a", []string{"c"}, []string{"c"})
	each(t, r, "c", []string{"a", "c"}, []string{"c"})
	refused(t, r, join("c", "a"), api.ErrRoleRing)
	refused(t, r, join("a", "b"), api.ErrRoleThere)
	gives(t, r, join("a", "c"), of("a b c", "a>b", "a>c", "b>c"))
	refused(t, r, drop("b"), api.ErrRoleUsed)
	refused(t, r, leave("a", "c"), api.ErrRoleNone)
}

func TestAdd(t *testing.T) { // P8.2: at the front, in the midst, at the end
	for _, c := range []struct{ names, name, want string }{
		{"", "a", "a"},
		{"", "a_1", "a_1"},
		{"", longest, longest},
		{"b d f", "a", "a b d f"},
		{"b d f", "a" + longest[1:], "a" + longest[1:] + " b d f"},
		{"b d f", "b0", "b b0 d f"},
		{"b d f", "c", "b c d f"},
		{"b d f", "e", "b d e f"},
		{"b d f", "d_", "b d d_ f"},
		{"b d f", "g", "b d f g"},
		{"b d f", "f0", "b d f f0"},
		{"b d f", longest, "b d f " + longest},
		{"aa", "a", "a aa"},
		{"aa", "a0", "a0 aa"},
		{"aa", "a_", "a_ aa"},
		{"aa", "aaa", "aa aaa"},
		{"aa", "ab", "aa ab"},
		{"aa", "b", "aa b"},
		{"a0 aa", "a_", "a0 a_ aa"},
		{"a1 a2", "a10", "a1 a10 a2"},
		{"root", "o", "o root"},
	} {
		gives(t, of(c.names), add(c.name), of(c.want))
	}
	gives(t, example(), add("aa"), of("a aa b c", "a>b", "b>c"))
	gives(t, api.Roles{Names: []string{}, Members: []api.Member{}}, add("x"), of("x"))
	r := house()
	r.Names = slices.Insert(r.Names, 7, "king")
	gives(t, house(), add("king"), r)
}

func TestAddAtEachPlace(t *testing.T) { // P8.2: the sixteenth, too
	for i, name := range of(sixteen).Names {
		gives(t, api.Roles{Names: slices.Delete(of(sixteen).Names, i, i+1)}, add(name), of(sixteen))
	}
}

func TestAddRefused(t *testing.T) { // P8.2: each error, and which goes ahead
	for _, name := range noNames {
		for _, r := range rights() {
			refused(t, r, add(name), api.ErrArg) // of 16 roles, too: ahead of ErrLimit
		}
	}
	for _, r := range rights() {
		for _, name := range r.Names {
			refused(t, r, add(name), api.ErrRoleThere) // of 16 roles, too: ahead of ErrLimit
		}
	}
	for _, r := range []api.Roles{of(sixteen), chain(), most(), back()} {
		for _, name := range []string{"a0", "hh", "q", longest} {
			refused(t, r, add(name), api.ErrLimit)
		}
	}
}

func TestLimit(t *testing.T) { // P8.2: the sixteenth role goes, the seventeenth does not
	r := api.Roles{}
	for i := range 20 {
		name := string(rune('a' + 19 - i))
		if i >= 16 {
			refused(t, r, add(name), api.ErrLimit)
			continue
		}
		want := api.Roles{Names: slices.Insert(slices.Clone(r.Names), 0, name)}
		gives(t, r, add(name), want)
		r = want
	}
	gives(t, r, drop("t"), api.Roles{Names: r.Names[:15]})
	r.Names = r.Names[:15]
	gives(t, r, add("a"), api.Roles{Names: append([]string{"a"}, r.Names...)})
}

func TestDrop(t *testing.T) { // P8.2: what is no member and has none
	gives(t, of("a"), drop("a"), api.Roles{})
	for i, name := range of(sixteen).Names {
		gives(t, of(sixteen), drop(name), api.Roles{Names: slices.Delete(of(sixteen).Names, i, i+1)})
	}
	gives(t, of("a b c", "a>c"), drop("b"), of("a c", "a>c"))
	gives(t, of("a b c", "b>c"), drop("a"), of("b c", "b>c"))
	gives(t, of("a b c", "a>b"), drop("c"), of("a b", "a>b"))
	gives(t, of("a aa b", "aa>b"), drop("a"), of("aa b", "aa>b")) // what begins as it does is another one
	r := house()
	r.Names = slices.Delete(r.Names, 1, 2)
	gives(t, house(), drop("a0"), r)
}

func TestDropRefused(t *testing.T) { // P8.2
	for _, r := range rights() {
		for _, name := range append(slices.Clone(noNames), "none", "a1", "bb", "roo", "root_") {
			refused(t, r, drop(name), api.ErrRoleNone)
		}
		for _, m := range r.Members {
			refused(t, r, drop(m.Role), api.ErrRoleUsed)
			refused(t, r, drop(m.Of), api.ErrRoleUsed)
		}
	}
	r := of("a b c", "a>b")
	refused(t, r, drop("a"), api.ErrRoleUsed) // a member
	refused(t, r, drop("b"), api.ErrRoleUsed) // it has one
	for _, name := range chain().Names {      // a member, with members, and both
		refused(t, chain(), drop(name), api.ErrRoleUsed)
	}
}

func TestJoin(t *testing.T) { // P8.3: at the front, in the midst, at the end
	for _, c := range []struct {
		members  []string
		role, of string
		want     []string
	}{
		{nil, "a", "b", []string{"a>b"}},
		{nil, "e", "a", []string{"e>a"}},
		{[]string{"b>c", "d>e"}, "a", "e", []string{"a>e", "b>c", "d>e"}},
		{[]string{"b>c", "d>e"}, "b", "a", []string{"b>a", "b>c", "d>e"}},
		{[]string{"b>c", "d>e"}, "b", "d", []string{"b>c", "b>d", "d>e"}},
		{[]string{"b>c", "d>e"}, "c", "a", []string{"b>c", "c>a", "d>e"}},
		{[]string{"b>c", "d>e"}, "c", "d", []string{"b>c", "c>d", "d>e"}},
		{[]string{"b>c", "d>e"}, "d", "a", []string{"b>c", "d>a", "d>e"}},
		{[]string{"b>c", "d>c"}, "d", "e", []string{"b>c", "d>c", "d>e"}},
		{[]string{"b>c", "d>c"}, "e", "a", []string{"b>c", "d>c", "e>a"}},
		{[]string{"a>b", "b>c"}, "a", "c", []string{"a>b", "a>c", "b>c"}}, // there is another way already
		{[]string{"a>b", "b>c", "c>d", "d>e"}, "a", "e", []string{"a>b", "a>e", "b>c", "c>d", "d>e"}},
		{[]string{"a>b", "a>c", "b>d", "c>d"}, "a", "d", []string{"a>b", "a>c", "a>d", "b>d", "c>d"}},
		{[]string{"a>b", "a>c", "b>d", "c>d"}, "b", "c", []string{"a>b", "a>c", "b>c", "b>d", "c>d"}},
		{[]string{"a>b", "c>d"}, "b", "c", []string{"a>b", "b>c", "c>d"}}, // two rows become one
	} {
		gives(t, of("a b c d e", c.members...), join(c.role, c.of), of("a b c d e", c.want...))
	}
	gives(t, of("a a0 a_ aa", "a>a0", "a>aa"), join("a", "a_"), of("a a0 a_ aa", "a>a0", "a>a_", "a>aa"))
	gives(t, of("a a0 a_ aa", "a0>a", "aa>a"), join("a_", "a"), of("a a0 a_ aa", "a0>a", "a_>a", "aa>a"))
}

func TestJoinUpToMost(t *testing.T) { // P8.3: there is no limit of members but that no role is its own
	want := most()
	for i, m := range want.Members {
		gives(t, api.Roles{Names: want.Names, Members: slices.Delete(slices.Clone(want.Members), i, i+1)}, join(m.Role, m.Of), want)
	}
	want = back()
	for i, m := range want.Members {
		gives(t, api.Roles{Names: want.Names, Members: slices.Delete(slices.Clone(want.Members), i, i+1)}, join(m.Role, m.Of), want)
	}
}

func TestJoinNone(t *testing.T) { // P8.3: ErrRoleNone, ahead of ErrRoleRing
	for _, r := range rights() {
		for _, no := range append(slices.Clone(noNames), "none", "a1", "bb", "rooT") {
			refused(t, r, join(no, no), api.ErrRoleNone)
			refused(t, r, join(no, "nobody"), api.ErrRoleNone)
			for _, name := range r.Names {
				refused(t, r, join(name, no), api.ErrRoleNone)
				refused(t, r, join(no, name), api.ErrRoleNone)
			}
		}
	}
}

func TestJoinThereOrRing(t *testing.T) { // P8.3
	for _, r := range rights() {
		reached := reach(r)
		for _, m := range r.Members {
			refused(t, r, join(m.Role, m.Of), api.ErrRoleThere)
		}
		for _, role := range r.Names {
			for _, above := range reached[role] {
				refused(t, r, join(above, role), api.ErrRoleRing) // role and above are one and the same, too
			}
		}
	}
	refused(t, chain(), join("p", "a"), api.ErrRoleRing) // over fifteen steps
	refused(t, chain(), join("b", "a"), api.ErrRoleRing) // over one
	refused(t, of("a b c d", "a>c", "b>c", "c>d"), join("d", "b"), api.ErrRoleRing)
	gives(t, of("a b c d", "a>c", "b>c", "c>d"), join("a", "b"), of("a b c d", "a>b", "a>c", "b>c", "c>d"))
}

func TestLeave(t *testing.T) { // P8.3
	for _, r := range rights() {
		for i, m := range r.Members {
			gives(t, r, leave(m.Role, m.Of), api.Roles{Names: r.Names, Members: slices.Delete(slices.Clone(r.Members), i, i+1)})
		}
	}
	gives(t, of("a b c", "a>b", "a>c", "b>c"), leave("a", "c"), example()) // there is another way still
	gives(t, of("a b", "b>a"), leave("b", "a"), of("a b"))
}

func TestLeaveRefused(t *testing.T) { // P8.3: no such member, whatever is reached
	for _, r := range rights() {
		for _, no := range append(slices.Clone(noNames), "none") {
			refused(t, r, leave(no, no), api.ErrRoleNone)
			for _, name := range r.Names {
				refused(t, r, leave(name, no), api.ErrRoleNone)
				refused(t, r, leave(no, name), api.ErrRoleNone)
			}
		}
		for _, role := range r.Names {
			for _, of := range r.Names {
				if !slices.Contains(r.Members, api.Member{Role: role, Of: of}) {
					refused(t, r, leave(role, of), api.ErrRoleNone)
				}
			}
		}
	}
	refused(t, chain(), leave("a", "p"), api.ErrRoleNone) // over others alone
	refused(t, chain(), leave("a", "c"), api.ErrRoleNone)
	refused(t, chain(), leave("b", "a"), api.ErrRoleNone) // the other way
	refused(t, chain(), leave("a", "a"), api.ErrRoleNone)
}

func TestAll(t *testing.T) { // P8.4
	for _, r := range rights() {
		tells(t, r)
	}
	all(t, chain(), "a", of(sixteen).Names, api.OK)
	all(t, chain(), "i", of(sixteen).Names[8:], api.OK)
	all(t, chain(), "p", []string{"p"}, api.OK)
	all(t, most(), "a", of(sixteen).Names, api.OK) // each once, though the ways are many
	all(t, back(), "p", of(sixteen).Names, api.OK) // rising, though the members lead back
	all(t, back(), "c", []string{"a", "b", "c"}, api.OK)
	all(t, house(), "guest", []string{"a_", "b", "cook", "guest", "lord", "maid"}, api.OK)
	all(t, house(), "cook", []string{"a_", "b", "cook", "lord"}, api.OK)
	all(t, house(), "a0", []string{"a0"}, api.OK)
	all(t, house(), longest, []string{longest}, api.OK)
	all(t, of("a b c d e", "b>a", "b>e", "d>b"), "d", []string{"a", "b", "d", "e"}, api.OK)
	tells(t, of("a b c d e f", "a>b", "a>c", "b>d", "c>d", "d>e", "d>f", "e>f"))
}

func TestNobody(t *testing.T) { // P8.4: names that are not there
	for _, r := range rights() {
		for _, no := range append(slices.Clone(noNames), "none", "a1", "aa0", "roo", "Root") {
			all(t, r, no, nil, api.ErrRoleNone)
			each(t, r, no, append([]string{no, "", "none"}, r.Names...), nil) // not itself either
			for _, name := range r.Names {
				each(t, r, name, []string{no}, nil)
			}
		}
	}
}

func TestManyRoles(t *testing.T) { // P8.3 to P8.5: all right ways in which four roles may be each other's, and what each call makes of them
	var pairs []api.Member // of unlike roles, rising
	for _, role := range of("a b c d").Names {
		for _, of := range of("a b c d").Names {
			if role != of {
				pairs = append(pairs, api.Member{Role: role, Of: of})
			}
		}
	}
	for bits := range 1 << len(pairs) {
		r := of("a b c d")
		var others []api.Member
		for i, m := range pairs {
			if bits>>i&1 != 0 {
				r.Members = append(r.Members, m)
			} else {
				others = append(others, m)
			}
		}
		if roles.Check(r) != api.OK {
			continue
		}
		tells(t, r)
		for i, m := range r.Members {
			refused(t, r, join(m.Role, m.Of), api.ErrRoleThere)
			gives(t, r, leave(m.Role, m.Of), api.Roles{Names: r.Names, Members: slices.Delete(slices.Clone(r.Members), i, i+1)})
		}
		reached := reach(r)
		for _, m := range others {
			refused(t, r, leave(m.Role, m.Of), api.ErrRoleNone)
			if slices.Contains(reached[m.Of], m.Role) {
				refused(t, r, join(m.Role, m.Of), api.ErrRoleRing)
			} else {
				joined(t, r, m)
			}
		}
	}
}

// joined holds that m joins r, stands at its place, is what its Of is and all that it was, and leaves again at once.
func joined(t *testing.T, r api.Roles, m api.Member) {
	t.Helper()
	out, code := roles.Join(r, m.Role, m.Of)
	if code != api.OK || roles.Check(out) != api.OK || !slices.Equal(out.Names, r.Names) || len(out.Members) != len(r.Members)+1 {
		t.Errorf("%v: Join %s %s: %v, %d", r, m.Role, m.Of, out, code)
	}
	for _, was := range append([]api.Member{m}, r.Members...) {
		if !slices.Contains(out.Members, was) {
			t.Errorf("%v: Join %s %s: %v; %v is not in it", r, m.Role, m.Of, out, was)
		}
	}
	ahead, behind := reach(r), reach(out)
	for _, role := range r.Names {
		want := slices.Clone(ahead[role])
		if slices.Contains(want, m.Role) {
			want = append(want, ahead[m.Of]...)
		}
		slices.Sort(want)
		if !slices.Equal(behind[role], slices.Compact(want)) {
			t.Errorf("%v: Join %s %s: %s is %v then; want %v", r, m.Role, m.Of, role, behind[role], want)
		}
	}
	tells(t, out)
	gives(t, out, leave(m.Role, m.Of), r)
}

func TestAtOnce(t *testing.T) { // P8.5: what is joined and left again at once, and added and dropped again, is as if it had not been
	for _, r := range []api.Roles{{}, of("a"), of("a c"), example(), chain(), most(), back(), house()} {
		for _, role := range r.Names {
			for _, above := range r.Names {
				if out, code := roles.Join(r, role, above); code == api.OK {
					if left, code := roles.Leave(out, role, above); code != api.OK || !same(left, r) {
						t.Errorf("%v: %s joins %s and leaves: %v, %d", r, role, above, left, code)
					}
				}
			}
		}
		for _, name := range []string{"a", "a1", "b", "king", "zz"} {
			if out, code := roles.Add(r, name); code == api.OK {
				if dropped, code := roles.Drop(out, name); code != api.OK || !same(dropped, r) {
					t.Errorf("%v: %s is added and dropped: %v, %d", r, name, dropped, code)
				}
			}
		}
		for _, m := range r.Members {
			left, _ := roles.Leave(r, m.Role, m.Of)
			if out, code := roles.Join(left, m.Role, m.Of); code != api.OK || !same(out, r) {
				t.Errorf("%v: %v leaves and joins: %v, %d", r, m, out, code)
			}
		}
	}
}

func TestBeing(t *testing.T) { // P8.5: who joins is what the other one is, and loses nothing; who leaves is nothing that it was not; being goes on
	r := of("a b c d e", "a>b", "c>d", "d>e")
	joined(t, r, api.Member{Role: "b", Of: "c"})
	r, _ = roles.Join(r, "b", "c")
	all(t, r, "a", []string{"a", "b", "c", "d", "e"}, api.OK)
	all(t, r, "c", []string{"c", "d", "e"}, api.OK)
	r, _ = roles.Leave(r, "c", "d")
	all(t, r, "a", []string{"a", "b", "c"}, api.OK)
	all(t, r, "d", []string{"d", "e"}, api.OK)
	joined(t, r, api.Member{Role: "e", Of: "a"})

	r = of("a b c", "a>b", "a>c", "b>c")
	r, _ = roles.Leave(r, "a", "c") // it is c still, by b
	each(t, r, "a", r.Names, []string{"a", "b", "c"})
	r, _ = roles.Leave(r, "b", "c")
	each(t, r, "a", r.Names, []string{"a", "b"})
}
