package roles_test

import (
	"fmt"
	"slices"
	"strings"
	"testing"

	"folkmoot/api"
	"folkmoot/roles"
)

var (
	longest = strings.Repeat("z", 16)
	tooLong = strings.Repeat("z", 17)
)

// noNames are texts that are no names.
var noNames = []string{"", "1a", "_a", "A", "aB", "a b", " a", "a ", "a-b", "a.b", "\x00", "a\x00", "ä", "aä", "a\n", "a\xff", "`", "{", "a`", "a{", "a/", "a:", "0", "_", tooLong, strings.Repeat("a", 100000)}

// of answers roles of the names in that text, and of members as "a>b": a is one of b's.
func of(names string, members ...string) api.Roles {
	r := api.Roles{Names: strings.Fields(names)}
	for _, m := range members {
		role, of, _ := strings.Cut(m, ">")
		r.Members = append(r.Members, api.Member{Role: role, Of: of})
	}
	return r
}

// example is the chapter's R.
func example() api.Roles { return of("a b c", "a>b", "b>c") }

const sixteen = "a b c d e f g h i j k l m n o p"

// chain has 16 roles, each a member of the next one.
func chain() api.Roles {
	r := of(sixteen)
	for i := range 15 {
		r.Members = append(r.Members, api.Member{Role: r.Names[i], Of: r.Names[i+1]})
	}
	return r
}

// most has the most of all: 16 roles, each a member of all behind it.
func most() api.Roles {
	r := of(sixteen)
	for i, role := range r.Names {
		for _, of := range r.Names[i+1:] {
			r.Members = append(r.Members, api.Member{Role: role, Of: of})
		}
	}
	return r
}

// back has 16 roles, each a member of all ahead of it.
func back() api.Roles {
	r := of(sixteen)
	for i, role := range r.Names {
		for _, of := range r.Names[:i] {
			r.Members = append(r.Members, api.Member{Role: role, Of: of})
		}
	}
	return r
}

// house has several ways from one role to another, roles that are none of anybody's, and names of many forms.
func house() api.Roles {
	return of("a a0 a_ aa b cook guest lord maid "+longest,
		"aa>b", "cook>b", "cook>lord", "guest>cook", "guest>lord", "guest>maid", "lord>a_", "maid>cook", "maid>lord")
}

// rights are roles that are right.
func rights() []api.Roles {
	return []api.Roles{{}, {Names: []string{}, Members: []api.Member{}}, of("a"), of("root"), of(sixteen), example(), chain(), most(), back(), house()}
}

// cloned answers r in new memory, each list with spare room behind it that is filled.
func cloned(r api.Roles) api.Roles {
	names := append(slices.Clone(r.Names), "SPARE", "room", "room")
	members := append(slices.Clone(r.Members), api.Member{Role: "SPARE", Of: "room"}, api.Member{})
	return api.Roles{Names: names[:len(r.Names)], Members: members[:len(r.Members)]}
}

func same(a, b api.Roles) bool {
	return slices.Equal(a.Names, b.Names) && slices.Equal(a.Members, b.Members)
}

// untouched answers whether r is as was, which was cloned as r was: the spare room of its lists too.
func untouched(r, was api.Roles) bool {
	wholeNames := func(r api.Roles) []string { return r.Names[:len(was.Names)+3] }
	wholeMembers := func(r api.Roles) []api.Member { return r.Members[:len(was.Members)+2] }
	return same(r, was) && slices.Equal(wholeNames(r), wholeNames(was)) && slices.Equal(wholeMembers(r), wholeMembers(was))
}

// overwrite writes all over the lists of r, their spare room too.
func overwrite(r api.Roles) {
	overwriteNames(r.Names)
	for i := range r.Members[:cap(r.Members)] {
		r.Members[:cap(r.Members)][i] = api.Member{Role: "OVER", Of: "written"}
	}
}

func overwriteNames(names []string) {
	for i := range names[:cap(names)] {
		names[:cap(names)][i] = "OVER"
	}
}

// call is one of the calls that change roles, with its arguments but for these.
type call struct {
	name string
	do   func(r api.Roles) (api.Roles, api.Errno)
}

func add(name string) call {
	return call{"Add " + name, func(r api.Roles) (api.Roles, api.Errno) { return roles.Add(r, name) }}
}

func drop(name string) call {
	return call{"Drop " + name, func(r api.Roles) (api.Roles, api.Errno) { return roles.Drop(r, name) }}
}

func join(role, of string) call {
	return call{"Join " + role + " " + of, func(r api.Roles) (api.Roles, api.Errno) { return roles.Join(r, role, of) }}
}

func leave(role, of string) call {
	return call{"Leave " + role + " " + of, func(r api.Roles) (api.Roles, api.Errno) { return roles.Leave(r, role, of) }}
}

// fault tells one, as text that can be read: what is very long is cut.
func fault(t *testing.T, format string, args ...any) {
	t.Helper()
	for i, x := range args {
		if s := fmt.Sprint(x); len(s) > 400 {
			args[i] = s[:400] + ".."
		}
	}
	t.Error(strings.ToValidUTF8(fmt.Sprintf(format, args...), "?"))
}

// refused holds that the call on r answers that error and nothing else, and leaves r as it was.
func refused(t *testing.T, r api.Roles, c call, want api.Errno) {
	t.Helper()
	r = cloned(r)
	was := cloned(r)
	out, code := c.do(r)
	if code != want || len(out.Names)+len(out.Members) > 0 {
		fault(t, "%v: %s: %v, %d; want %d", was, c.name, out, code, want)
	}
	if !untouched(r, was) {
		fault(t, "%v: %s wrote into what was handed in: %v", was, c.name, r)
	}
}

// gives holds that the call on r answers want, which is right, in new memory, and leaves r as it was.
func gives(t *testing.T, r api.Roles, c call, want api.Roles) {
	t.Helper()
	r, want = cloned(r), cloned(want)
	was := cloned(r)
	out, code := c.do(r)
	again, codeAgain := c.do(r)
	if code != api.OK || !same(out, want) {
		fault(t, "%v: %s: %v, %d; want %v", was, c.name, out, code, want)
	}
	if codeAgain != code || !same(again, out) {
		fault(t, "%v: %s: %v, %d; then %v, %d", was, c.name, out, code, again, codeAgain)
	}
	if code := roles.Check(out); code != api.OK {
		fault(t, "%v: %s: what comes out is not right: %v", was, c.name, out)
	}
	if !untouched(r, was) {
		fault(t, "%v: %s wrote into what was handed in: %v", was, c.name, r)
	}
	overwrite(out)
	if !untouched(r, was) {
		fault(t, "%v: %s: what comes out is memory of what was handed in", was, c.name)
	}
	if !same(again, want) {
		fault(t, "%v: %s: what comes out twice is the same memory", was, c.name)
	}
	overwrite(r)
	if !same(again, want) {
		fault(t, "%v: %s: what was handed in is kept in what comes out", was, c.name)
	}
}

// all holds All of r and role against want.
func all(t *testing.T, r api.Roles, role string, want []string, wantCode api.Errno) {
	t.Helper()
	r = cloned(r)
	was := cloned(r)
	out, code := roles.All(r, role)
	again, codeAgain := roles.All(r, role)
	if code != wantCode || !slices.Equal(out, want) {
		fault(t, "%v: All %s: %v, %d; want %v, %d", was, role, out, code, want, wantCode)
	}
	if codeAgain != code || !slices.Equal(again, out) {
		fault(t, "%v: All %s: %v, %d; then %v, %d", was, role, out, code, again, codeAgain)
	}
	overwriteNames(out)
	if !untouched(r, was) {
		fault(t, "%v: All %s wrote into what was handed in, or tells its memory: %v", was, role, r)
	}
	if !slices.Equal(again, want) {
		fault(t, "%v: All %s: what comes out twice is the same memory", was, role)
	}
}

// each holds Is of r and role against want, asked of all the names.
func each(t *testing.T, r api.Roles, role string, names, want []string) {
	t.Helper()
	r = cloned(r)
	was := cloned(r)
	for _, of := range names {
		if is := roles.Is(r, role, of); is != slices.Contains(want, of) {
			fault(t, "%v: Is %s %s: %t", was, role, of, is)
		}
	}
	if !untouched(r, was) {
		fault(t, "%v: Is of %s wrote into what was handed in: %v", was, role, r)
	}
}

// reach answers what each role of r is, by rounds over a table of who reaches whom; r may have rings.
func reach(r api.Roles) map[string][]string {
	reached := map[api.Member]bool{}
	for _, m := range r.Members {
		reached[m] = true
	}
	for _, over := range r.Names {
		for _, role := range r.Names {
			for _, of := range r.Names {
				if reached[api.Member{Role: role, Of: over}] && reached[api.Member{Role: over, Of: of}] {
					reached[api.Member{Role: role, Of: of}] = true
				}
			}
		}
	}
	all := map[string][]string{}
	for _, role := range r.Names {
		for _, of := range r.Names {
			if role == of || reached[api.Member{Role: role, Of: of}] {
				all[role] = append(all[role], of)
			}
		}
	}
	return all
}

// tells holds all that All and Is tell of r against what reach reckons.
func tells(t *testing.T, r api.Roles) {
	t.Helper()
	want := reach(r)
	for _, role := range r.Names {
		all(t, r, role, want[role], api.OK)
		each(t, r, role, append([]string{"", "none"}, r.Names...), want[role])
	}
}
