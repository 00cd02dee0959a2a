package roles_test

import (
	"slices"
	"strconv"
	"strings"
	"testing"

	"folkmoot/api"
	"folkmoot/roles"
)

func checks(t *testing.T, name string, r api.Roles, want api.Errno) {
	t.Helper()
	r = cloned(r)
	was := cloned(r)
	if code := roles.Check(r); code != want {
		t.Errorf("%s: Check: %d; want %d", name, code, want)
	}
	if !untouched(r, was) {
		fault(t, "%s: Check wrote into what was handed in: %v", name, r)
	}
}

func TestCheckRight(t *testing.T) { // P8.1
	for i, r := range rights() {
		checks(t, strconv.Itoa(i), r, api.OK)
		if code := roles.Check(r); code != api.OK {
			t.Errorf("%v: Check: %d", r, code)
		}
	}
	for name, r := range map[string]api.Roles{
		"names of all forms":               of("a a0 a00 a0_ a0a a9 a_ a_0 aa aaaaaaaaaaaaaaaa b z z9 z_ " + longest),
		"15 names":                         of("a b c d e f g h i j k l m n o"),
		"a member of the first one":        of("a b", "b>a"),
		"a member of the last one":         of("a b", "a>b"),
		"members of one Role, rising":      of("a a0 a_ aa", "a>a0", "a>a_", "a>aa"),
		"members of one Of":                of("a b c d", "a>c", "b>c", "d>c"),
		"members rise by Role first":       of("a b c", "a>c", "b>a"),
		"two ways":                         of("a b c d", "a>b", "a>c", "b>d", "c>d"),
		"two ways, and the short one":      of("a b c d", "a>b", "a>c", "a>d", "b>d", "c>d"),
		"ways of unlike lengths":           of("a b c d", "a>b", "a>d", "b>c", "c>d"),
		"two parts":                        of("a b c d", "a>b", "d>c"),
		"two ways that look like a ring":   of("a b c", "a>b", "a>c", "c>b"),
		"a way that comes by itself again": of("a b c d e", "a>c", "b>c", "c>d", "e>c", "e>d"),
	} {
		checks(t, name, r, api.OK)
	}
}

// wrong is roles that are not right.
type wrong struct {
	name  string
	roles api.Roles
}

// at answers the list with x at the place i.
func at[T any](list []T, i int, x T) []T {
	list = slices.Clone(list)
	list[i] = x
	return list
}

func wrongNames() []wrong {
	wrongs := []wrong{
		{"two names out of order", of("b a")},
		{"the first two names out of order", of("b a c d")},
		{"names in the midst out of order", of("a c b d")},
		{"the last two names out of order", of("a b d c")},
		{"names falling", of("d c b a")},
		{"a beginning behind the whole", of("aa a")},
		{"a digit behind a _", of("a_ a0")},
		{"a digit behind a letter", of("aa a0")},
		{"a _ behind a letter", of("aa a_")},
		{"names by their lengths", of("b aa")},
		{"digits as numbers", of("a9 a10")},
		{"a name twice", of("a a")},
		{"the first name twice", of("a a b c")},
		{"a name in the midst twice", of("a b b c")},
		{"the last name twice", of("a b c c")},
		{"a name twice, far apart", of("a b c a")},
		{"16 names, the last two alike", api.Roles{Names: at(of(sixteen).Names, 15, "o")}},
		{"17 names", of(sixteen + " q")},
		{"17 names, members", api.Roles{Names: of(sixteen + " q").Names, Members: most().Members}},
		{"18 names", of(sixteen + " q r")},
		{"wrong names and right members", of("b a", "a>b")},
	}
	for _, name := range noNames {
		for i := range 3 {
			wrongs = append(wrongs,
				wrong{"a name that is none, at " + strconv.Itoa(i), api.Roles{Names: at(of("a b c").Names, i, name)}})
		}
		wrongs = append(wrongs,
			wrong{"a name that is none", api.Roles{Names: []string{name}}},
			wrong{"a name that is none, at its place", api.Roles{Names: sorted("a", "m", name)}},
			wrong{"a name that is none, used", api.Roles{Names: sorted("a", name), Members: []api.Member{{Role: "a", Of: name}}}},
			wrong{"a name that is none, 16 names", api.Roles{Names: sorted(append(of(sixteen).Names[1:], name)...)}})
	}
	return wrongs
}

func sorted(names ...string) []string {
	slices.Sort(names)
	return names
}

func wrongMembers() []wrong {
	wrongs := []wrong{
		{"members without names", of("", "a>b")},
		{"the first two members out of order by Role", of("a b c d", "b>d", "a>d", "c>d")},
		{"members in the midst out of order by Role", of("a b c d e", "a>e", "c>e", "b>e", "d>e")},
		{"the last two members out of order by Role", of("a b c d", "a>d", "c>d", "b>d")},
		{"members by Of ahead of Role", of("a b c d", "b>c", "a>d")},
		{"the first two members out of order by Of", of("a b c d", "a>c", "a>b", "a>d")},
		{"the last two members out of order by Of", of("a b c d", "a>b", "a>d", "a>c")},
		{"members of another Role out of order by Of", of("a b c d", "a>d", "b>d", "b>c")},
		{"a digit behind a _ as Of", of("a a0 a_", "a>a_", "a>a0")},
		{"a _ behind a letter as Role", of("a a_ aa", "aa>a", "a_>a")},
		{"a member twice", of("a b", "a>b", "a>b")},
		{"the first member twice", of("a b c", "a>b", "a>b", "a>c")},
		{"the last member twice", of("a b c", "a>b", "b>c", "b>c")},
		{"a member twice, far apart", of("a b c", "a>b", "b>c", "a>b")},
		{"a member twice, its Role's others between", of("a b c", "a>b", "a>c", "a>b")},
		{"the last member of most twice", api.Roles{Names: most().Names, Members: append(most().Members, api.Member{Role: "o", Of: "p"})}},
	}
	for _, no := range append(slices.Clone(noNames), "none", "ab", "a_", "q") {
		for name, m := range map[string]api.Member{
			"a Role that is no role":           {Role: no, Of: "a"},
			"an Of that is no role":            {Role: "a", Of: no},
			"a Role and an Of that are none":   {Role: no, Of: no},
			"a Role that is none of a's likes": {Role: no, Of: "b"},
			"an Of that is none of b's likes":  {Role: "b", Of: no},
		} {
			members := append(of("", "a>b").Members, m)
			slices.SortFunc(members, func(a, b api.Member) int {
				return strings.Compare(a.Role+"\x00"+a.Of, b.Role+"\x00"+b.Of)
			})
			wrongs = append(wrongs,
				wrong{name + ": " + no[:min(len(no), 20)], api.Roles{Names: []string{"a", "b"}, Members: []api.Member{m}}},
				wrong{name + ", of two: " + no[:min(len(no), 20)], api.Roles{Names: []string{"a", "b"}, Members: members}})
		}
	}
	return wrongs
}

// ring answers 16 roles of which n, from the one at the place start on, each step roles on, are a ring; members rise.
func ring(start, step, n int, others ...string) api.Roles {
	r := of(sixteen, others...)
	for i := range n {
		r.Members = append(r.Members, api.Member{Role: r.Names[(start+i*step)%16], Of: r.Names[(start+(i+1)%n*step)%16]})
	}
	slices.SortFunc(r.Members, func(a, b api.Member) int { return strings.Compare(a.Role+a.Of, b.Role+b.Of) })
	return r
}

func wrongRings() []wrong {
	wrongs := []wrong{
		{"a role that is its own member", of("a", "a>a")},
		{"the first one of three is its own member", of("a b c", "a>a")},
		{"the midst one of three is its own member", of("a b c", "a>b", "b>b", "b>c")},
		{"the last one of three is its own member", of("a b c", "a>b", "b>c", "c>c")},
		{"a ring of two", of("a b", "a>b", "b>a")},
		{"a ring of two behind others", of("a b c d", "a>b", "b>c", "c>d", "d>c")},
		{"a ring of two ahead of others", of("a b c d", "a>b", "b>a", "b>c", "c>d")},
		{"a ring of two, others lead into it by both", of("a b c d", "a>c", "b>d", "c>d", "d>c")},
		{"a ring of two, the last one leads into it", of("a b c d", "a>b", "b>a", "d>a", "d>c")},
		{"a ring of two by itself", of("a b c d", "a>d", "b>c", "c>b")},
		{"a ring of three", of("a b c", "a>b", "b>c", "c>a")},
		{"a ring of three, the other way", of("a b c", "a>c", "b>a", "c>b")},
		{"a ring of three, and ways out of it", of("a b c d", "a>b", "a>d", "b>c", "b>d", "c>a", "c>d")},
		{"a ring of three, and ways into it", of("a b c d", "a>b", "a>c", "a>d", "b>c", "c>d", "d>b")},
		{"two rings that share a role", of("a b c", "a>b", "a>c", "b>a", "c>a")},
		{"two rings apart", of("a b c d", "a>b", "b>a", "c>d", "d>c")},
		{"two ways, one of which is a ring", of("a b c d", "a>b", "a>c", "b>d", "c>d", "d>b")},
		{"all are each other's", all16(func(i, j int) bool { return i != j })},
		{"all are each other's and their own", all16(func(i, j int) bool { return true })},
		{"all are all's behind them, and the last one the first one's", all16(func(i, j int) bool { return i < j || i == 15 && j == 0 })},
		{"all are all's behind them, and the last two each other's", all16(func(i, j int) bool { return i < j || i == 15 && j == 14 })},
		{"all are all's ahead of them, and the first two each other's", all16(func(i, j int) bool { return i > j || i == 0 && j == 1 })},
		{"all are all's behind them, and the last one its own", all16(func(i, j int) bool { return i < j || i == 15 && j == 15 })},
	}
	for n := 1; n <= 16; n++ {
		wrongs = append(wrongs,
			wrong{"a ring of " + strconv.Itoa(n), ring(0, 1, n)},
			wrong{"a ring to the end, of " + strconv.Itoa(n), ring(16-n, 1, n)},
			wrong{"a ring the other way, of " + strconv.Itoa(n), ring(15, 15, n)},
			wrong{"a ring hither and thither, of " + strconv.Itoa(n), ring(3, 7, n)})
	}
	for n := 1; n <= 8; n++ { // a to h lead in, i is in the ring
		wrongs = append(wrongs,
			wrong{"a row leads into a ring of " + strconv.Itoa(n), ring(8, 1, n, "a>b", "b>c", "c>d", "d>e", "e>f", "f>g", "g>h", "h>i")},
			wrong{"many lead into a ring of " + strconv.Itoa(n), ring(8, 1, n, "a>i", "b>i", "c>i", "d>i", "e>i", "f>i", "g>i", "h>i")},
			wrong{"a row leads out of a ring of " + strconv.Itoa(n), ring(8, 1, n, "b>a", "c>b", "d>c", "e>d", "f>e", "g>f", "h>g", "i>h")})
	}
	return wrongs
}

// all16 answers 16 roles, of which the i-th is a member of the j-th, where so is.
func all16(so func(i, j int) bool) api.Roles {
	r := of(sixteen)
	for i, role := range r.Names {
		for j, of := range r.Names {
			if so(i, j) {
				r.Members = append(r.Members, api.Member{Role: role, Of: of})
			}
		}
	}
	return r
}

func wrongOnes() []wrong { return slices.Concat(wrongNames(), wrongMembers(), wrongRings()) }

func TestCheckWrong(t *testing.T) { // P8.1
	for _, w := range wrongOnes() {
		checks(t, w.name, w.roles, api.ErrArg)
		if code := roles.Check(w.roles); code != api.ErrArg {
			t.Errorf("%s: Check: %d", w.name, code)
		}
	}
}

func TestAllCallsOnWrong(t *testing.T) { // P8.1: ErrArg (Is: false) ahead of all else, whatever is asked
	for _, w := range wrongOnes() {
		for _, x := range []string{"a", "b", "c", "p", "new", "a0", "", "A", tooLong} {
			refused(t, w.roles, add(x), api.ErrArg)
			refused(t, w.roles, drop(x), api.ErrArg)
			all(t, w.roles, x, nil, api.ErrArg)
			for _, y := range []string{"a", "b", "c", "p", "none", ""} {
				refused(t, w.roles, join(x, y), api.ErrArg)
				refused(t, w.roles, leave(x, y), api.ErrArg)
				each(t, w.roles, x, []string{y}, nil)
			}
		}
		for _, m := range w.roles.Members[:min(len(w.roles.Members), 3)] {
			refused(t, w.roles, join(m.Role, m.Of), api.ErrArg)
			refused(t, w.roles, leave(m.Role, m.Of), api.ErrArg)
			each(t, w.roles, m.Role, []string{m.Role, m.Of}, nil)
			all(t, w.roles, m.Role, nil, api.ErrArg)
		}
		if t.Failed() {
			t.Fatal(w.name)
		}
	}
}

func TestRingsOfFour(t *testing.T) { // P8.1: all ways in which four roles may be each other's
	for bits := range 1 << 16 {
		r := of("a b c d")
		for i := range 16 {
			if bits>>i&1 != 0 {
				r.Members = append(r.Members, api.Member{Role: r.Names[i/4], Of: r.Names[i%4]})
			}
		}
		want := api.OK
		reached := reach(r)
		for _, m := range r.Members {
			if slices.Contains(reached[m.Of], m.Role) {
				want = api.ErrArg
			}
		}
		if code := roles.Check(r); code != want {
			t.Fatalf("%v: Check: %d; want %d", r, code, want)
		}
	}
}

func TestCheckOfVeryMany(t *testing.T) { // R1: lists far beyond the limits end, soon
	const n = 100000
	rising := make([]string, n)
	for i := range rising {
		rising[i] = "a" + strconv.Itoa(1000000+i)
	}
	long := make([]api.Member, n-1)
	for i := range long {
		long[i] = api.Member{Role: rising[i], Of: rising[i+1]}
	}
	alike := make([]api.Member, n)
	for i := range alike {
		alike[i] = api.Member{Role: "a", Of: "b"}
	}
	last := append(slices.Clone(alike), api.Member{Role: "a", Of: "none"})
	vast := strings.Repeat("a", 300*n)
	for name, r := range map[string]api.Roles{
		"empty names":            {Names: make([]string, n)},
		"rising names":           {Names: rising},
		"a long chain":           {Names: rising, Members: long},
		"members, no names":      {Members: long},
		"members, others' names": {Names: rising[:16], Members: long},
		"members alike":          {Names: []string{"a", "b"}, Members: alike},
		"the last Of is none":    {Names: []string{"a", "b"}, Members: last},
		"empty members":          {Names: []string{"a", "b"}, Members: make([]api.Member, n)},
		"a vast name":            {Names: []string{vast}},
		"a vast member":          {Names: []string{"a"}, Members: []api.Member{{Role: vast, Of: vast}}},
	} {
		checks(t, name, r, api.ErrArg)
		refused(t, r, add("new"), api.ErrArg)
		refused(t, r, drop("a"), api.ErrArg)
		refused(t, r, join("a", "b"), api.ErrArg)
		refused(t, r, leave("a", "b"), api.ErrArg)
		all(t, r, "a", nil, api.ErrArg)
		each(t, r, "a", []string{"a", "b"}, nil)
	}
	refused(t, example(), add(vast), api.ErrArg)
	refused(t, example(), drop(vast), api.ErrRoleNone)
	refused(t, example(), join(vast, vast), api.ErrRoleNone)
	refused(t, example(), leave(vast, "a"), api.ErrRoleNone)
	all(t, example(), vast, nil, api.ErrRoleNone)
	each(t, example(), vast, []string{"a", vast}, nil)
}
