package objects_test

import (
	"reflect"
	"strings"
	"testing"

	"folkmoot/api"
	"folkmoot/objects"
)

const (
	low  = -1 << 63
	high = 1<<63 - 1
)

var (
	longest = strings.Repeat("z", 16)
	tooLong = strings.Repeat("z", 17)
)

// noNames are texts that are no names.
var noNames = []string{"", "1a", "_a", "A", "aB", "a b", " a", "a ", "a-b", "a.b", "\x00", "a\x00", "ä", "aä", "a\n", "0", "_", strings.Repeat("z", 17), strings.Repeat("a", 100000)}

func whole(name string) api.Column { return api.Column{Name: name, Kind: api.ValueInt} }

func text(name string) api.Column { return api.Column{Name: name, Kind: api.ValueText} }

func null(c api.Column) api.Column {
	c.Null = true
	return c
}

func index(name string, columns ...string) api.Rule {
	return api.Rule{Name: name, Kind: api.RuleIndex, Columns: columns}
}

func key(name string, columns ...string) api.Rule {
	return api.Rule{Name: name, Kind: api.RuleKey, Columns: columns}
}

func check(name, column string, from, to int) api.Rule {
	return api.Rule{Name: name, Kind: api.RuleCheck, Columns: []string{column}, Low: from, High: to}
}

func foreign(name, schema, table, key string, columns ...string) api.Rule {
	return api.Rule{Name: name, Kind: api.RuleForeign, Columns: columns, Schema: schema, Table: table, Key: key}
}

func table(schema, name string, columns []api.Column, rules ...api.Rule) api.Table {
	return api.Table{Schema: schema, Name: name, Owner: "o", Columns: columns, Rules: rules}
}

// schemas answers schemas of these names, of the owner o.
func schemas(names ...string) []api.Schema {
	var list []api.Schema
	for _, name := range names {
		list = append(list, api.Schema{Name: name, Owner: "o"})
	}
	return list
}

// upTo answers n names that rise.
func upTo(n int) []string {
	var names []string
	for i := range n {
		names = append(names, string(rune('a'+i)))
	}
	return names
}

// columns answers n columns a, b and so on, of ValueInt.
func columns(n int) []api.Column {
	var list []api.Column
	for _, name := range upTo(n) {
		list = append(list, whole(name))
	}
	return list
}

// manyTables answers n tables a, b and so on of the schema.
func manyTables(schema string, n int) []api.Table {
	var list []api.Table
	for _, name := range upTo(n) {
		list = append(list, table(schema, name, columns(1)))
	}
	return list
}

// indexes answers n indexes a, b and so on, of the column.
func indexes(n int, column string) []api.Rule {
	var list []api.Rule
	for _, name := range upTo(n) {
		list = append(list, index(name, column))
	}
	return list
}

// example is the chapter's O.
func example() api.Objects {
	return api.Objects{
		Schemas: schemas("s"),
		Tables:  []api.Table{table("s", "t", []api.Column{whole("x"), null(text("y"))}, key("k", "x"))},
	}
}

// market has three schemas, the last one empty, and rules of each kind, which name keys ahead of themselves, behind themselves and in their own table.
func market() api.Objects {
	item := table("b", "item", []api.Column{whole("id"), text("name"), null(whole("part")), whole("cost"), null(whole("spare"))},
		index("a_cost", "cost", "id"),
		check("cheap", "cost", 0, 99),
		foreign("of", "b", "item", "one", "part"),
		key("one", "id"),
		key("two", "id", "name"))
	sale := table("b", "sale", []api.Column{text("what"), whole("of"), whole("day")},
		foreign("sold", "b", "item", "two", "of", "what"),
		foreign("when", "d", "day", "no", "day"))
	stock := table("b", "stock", []api.Column{text("what"), null(whole("much"))})
	day := table("d", "day", []api.Column{whole("no"), null(whole("best"))},
		foreign("best", "b", "item", "one", "best"),
		key("no", "no"))
	return api.Objects{Schemas: schemas("b", "d", "f"), Tables: []api.Table{item, sale, stock, day}}
}

// full has the most of all: 8 schemas, each with 8 tables, each with 8 columns and 8 rules.
func full() api.Objects {
	o := api.Objects{Schemas: schemas(upTo(8)...)}
	for _, s := range upTo(8) {
		for _, name := range upTo(8) {
			rules := indexes(8, "h")
			rules[2] = key("c", "a", "b")
			rules[3] = check("d", "c", low, high)
			for i := 4; i < 8; i++ {
				rules[i] = foreign(rules[i].Name, upTo(8)[i], name, "c", "d", "e")
			}
			o.Tables = append(o.Tables, table(s, name, columns(8), rules...))
		}
	}
	return o
}

// cloned answers x in new memory, each list with spare room behind it that is filled.
func cloned[T any](x T) T {
	cloneLists(reflect.ValueOf(&x).Elem())
	return x
}

func cloneLists(v reflect.Value) {
	switch v.Kind() {
	case reflect.Struct:
		for i := range v.NumField() {
			cloneLists(v.Field(i))
		}
	case reflect.Slice:
		const spare = 3
		list := reflect.MakeSlice(v.Type(), v.Len()+spare, v.Len()+spare)
		for i := range list.Len() {
			fill(list.Index(i))
		}
		reflect.Copy(list, v)
		for i := range v.Len() {
			cloneLists(list.Index(i))
		}
		v.Set(list.Slice(0, v.Len()))
	}
}

// fill lays something into v that no call would lay there.
func fill(v reflect.Value) {
	switch v.Kind() {
	case reflect.Struct:
		for i := range v.NumField() {
			fill(v.Field(i))
		}
	case reflect.String:
		v.SetString("SPARE")
	case reflect.Int:
		v.SetInt(-7)
	}
}

// lists answers each list within what x points to, each to the end of its spare room.
func lists(x any) []reflect.Value {
	var all []reflect.Value
	var walk func(v reflect.Value)
	walk = func(v reflect.Value) {
		switch v.Kind() {
		case reflect.Struct:
			for i := range v.NumField() {
				walk(v.Field(i))
			}
		case reflect.Slice:
			all = append(all, v.Slice(0, v.Cap()))
			for i := range v.Len() {
				walk(v.Index(i))
			}
		}
	}
	walk(reflect.ValueOf(x).Elem())
	return all
}

// plain answers x in new memory, each empty list being nil.
func plain[T any](x T) T {
	x = cloned(x)
	trim(reflect.ValueOf(&x).Elem())
	return x
}

func trim(v reflect.Value) {
	switch v.Kind() {
	case reflect.Struct:
		for i := range v.NumField() {
			trim(v.Field(i))
		}
	case reflect.Slice:
		for i := range v.Len() {
			trim(v.Index(i))
		}
		if v.Len() == 0 {
			v.SetZero()
		}
	}
}

// same answers whether two things are alike, a list without elements being nil or not.
func same[T any](a, b T) bool { return reflect.DeepEqual(plain(a), plain(b)) }

// call is one of the calls that change objects, with its arguments but for these.
type call struct {
	name string
	do   func(o api.Objects) (api.Objects, api.Errno)
}

func addSchema(name, owner string) call {
	return call{"AddSchema " + name + " " + owner, func(o api.Objects) (api.Objects, api.Errno) { return objects.AddSchema(o, name, owner) }}
}

func dropSchema(name string) call {
	return call{"DropSchema " + name, func(o api.Objects) (api.Objects, api.Errno) { return objects.DropSchema(o, name) }}
}

func addTable(t api.Table) call {
	return call{"AddTable " + t.Schema + " " + t.Name + " " + t.Owner, func(o api.Objects) (api.Objects, api.Errno) { return objects.AddTable(o, t) }}
}

func dropTable(schema, table string) call {
	return call{"DropTable " + schema + " " + table, func(o api.Objects) (api.Objects, api.Errno) { return objects.DropTable(o, schema, table) }}
}

func addColumn(schema, table string, c api.Column) call {
	return call{"AddColumn " + schema + " " + table + " " + c.Name, func(o api.Objects) (api.Objects, api.Errno) { return objects.AddColumn(o, schema, table, c) }}
}

func dropColumn(schema, table, name string) call {
	return call{"DropColumn " + schema + " " + table + " " + name, func(o api.Objects) (api.Objects, api.Errno) {
		return objects.DropColumn(o, schema, table, name)
	}}
}

func addRule(schema, table string, r api.Rule) call {
	return call{"AddRule " + schema + " " + table + " " + r.Name, func(o api.Objects) (api.Objects, api.Errno) { return objects.AddRule(o, schema, table, r) }}
}

func dropRule(schema, table, name string) call {
	return call{"DropRule " + schema + " " + table + " " + name, func(o api.Objects) (api.Objects, api.Errno) { return objects.DropRule(o, schema, table, name) }}
}

func setOwner(schema, table, owner string) call {
	return call{"SetOwner " + schema + " " + table + " " + owner, func(o api.Objects) (api.Objects, api.Errno) {
		return objects.SetOwner(o, schema, table, owner)
	}}
}

// refused holds that the call on o answers that error and nothing else, and leaves o as it was.
func refused(t *testing.T, o api.Objects, c call, want api.Errno) {
	t.Helper()
	for _, o := range []api.Objects{plain(o), cloned(o)} {
		was := cloned(o)
		out, code := c.do(o)
		if code != want || !reflect.DeepEqual(plain(out), api.Objects{}) {
			t.Errorf("%s: %v, %d; want %d", c.name, out, code, want)
		}
		if !same(o, was) {
			t.Errorf("%s changed what was handed in: %v", c.name, o)
		}
	}
}

// gives holds that the call on o answers want, which is right, in new memory, and leaves o as it was.
func gives(t *testing.T, o api.Objects, c call, want api.Objects) {
	t.Helper()
	for _, o := range []api.Objects{plain(o), cloned(o)} {
		was := cloned(o)
		out, code := c.do(o)
		if code != api.OK || !same(out, want) {
			t.Errorf("%s: %v, %d; want %v", c.name, out, code, want)
		}
		if code := objects.Check(out); code != api.OK {
			t.Errorf("%s: what comes out is not right: %v", c.name, out)
		}
		if !same(o, was) {
			t.Errorf("%s changed what was handed in: %v", c.name, o)
		}
		apart(t, c.name, &o, &out)
	}
	o = cloned(o)
	was := cloned(o)
	if c.do(o); !untouched(o, was) {
		t.Errorf("%s wrote into what was handed in: %v", c.name, o)
	}
}

// untouched answers whether x is as was, which was cloned as x was: the spare room of its lists too.
func untouched[T any](x, was T) bool {
	a, b := lists(&x), lists(&was)
	if !reflect.DeepEqual(x, was) || len(a) != len(b) {
		return false
	}
	for i := range a {
		if !reflect.DeepEqual(a[i].Interface(), b[i].Interface()) {
			return false
		}
	}
	return true
}

// apart holds that no two lists within the things share any memory, their spare room neither. The things come as pointers.
func apart(t *testing.T, name string, things ...any) {
	t.Helper()
	seen := map[uintptr]bool{}
	for _, x := range things {
		for _, list := range lists(x) {
			for i := range list.Len() {
				at := list.Index(i).Addr().Pointer()
				if seen[at] {
					t.Errorf("%s: two lists share memory: %v", name, list.Interface())
					return
				}
				seen[at] = true
			}
		}
	}
}
