package objects_test

import (
	"strings"
	"testing"

	"folkmoot/api"
	"folkmoot/objects"
)

func named(t *testing.T, s string, want bool) {
	t.Helper()
	if objects.Name(s) != want {
		t.Errorf("Name(%q): %t", s, !want)
	}
}

func TestNameExamples(t *testing.T) { // P7.1
	named(t, "a_1", true)
	named(t, "1a", false)
	named(t, "", false)
	named(t, "abcdefghijklmnopq", false)
}

func TestNameLength(t *testing.T) { // P7.1
	for n := range 40 {
		named(t, strings.Repeat("a", n), 1 <= n && n <= 16)
		named(t, "z"+strings.Repeat("_", n), n <= 15)
		named(t, "b"+strings.Repeat("9", n), n <= 15)
	}
	named(t, strings.Repeat("a", 1<<20), false)
	named(t, strings.Repeat("ä", 8), false)
}

func TestNameBytes(t *testing.T) { // P7.1: each byte, in the first place and behind it
	for n := range 256 {
		b := string([]byte{byte(n)})
		letter := strings.Contains("abcdefghijklmnopqrstuvwxyz", b)
		behind := letter || strings.Contains("0123456789_", b)
		named(t, b, letter)
		named(t, b+"a", letter)
		named(t, b+strings.Repeat("a", 15), letter)
		for at := 1; at < 16; at++ {
			named(t, strings.Repeat("a", at)+b, behind)
			named(t, strings.Repeat("a", at)+b+strings.Repeat("a", 15-at), behind)
		}
		named(t, strings.Repeat("a", 16)+b, false)
	}
	for _, s := range noNames {
		named(t, s, false)
	}
}

// rightOnes are objects that are right.
func rightOnes() map[string]api.Objects {
	return map[string]api.Objects{
		"none":          {},
		"empty lists":   {Schemas: []api.Schema{}, Tables: []api.Table{}},
		"a schema":      {Schemas: schemas("s")},
		"the example":   example(),
		"a market":      market(),
		"the most":      full(),
		"a name's edge": {Schemas: []api.Schema{{Name: longest, Owner: longest}}, Tables: []api.Table{{Schema: longest, Name: longest, Owner: longest, Columns: []api.Column{whole(longest)}, Rules: []api.Rule{index(longest, longest)}}}},
		"a short name":  {Schemas: []api.Schema{{Name: "a", Owner: "z"}}, Tables: []api.Table{{Schema: "a", Name: "a", Owner: "a", Columns: []api.Column{text("a")}, Rules: []api.Rule{key("a", "a")}}}},
		"beginnings ahead": {
			Schemas: schemas("a", "a0", "a9", "a_", "aa", "az", "b"),
			Tables: []api.Table{
				table("a", "a", columns(1), index("a", "a"), index("a0", "a"), index("a_", "a"), index("aa", "a"), index("b", "a")),
				table("a", "a0", columns(1)), table("a", "a_", columns(1)), table("a", "aa", columns(1)), table("a", "b", columns(1)),
				table("a0", "a", columns(1)), table("a_", "a", columns(1)), table("aa", "a", columns(1)),
			},
		},
		"one table, two names' order": { // of two schemas the tables' names need not rise
			Schemas: schemas("a", "b"),
			Tables:  []api.Table{table("a", "z", columns(1)), table("b", "a", columns(1)), table("b", "z", columns(1))},
		},
		"columns in any order": {Schemas: schemas("s"), Tables: []api.Table{table("s", "t", []api.Column{whole("z"), null(text("a")), whole("y")})}},
		"a rule's columns in any order": {Schemas: schemas("s"), Tables: []api.Table{
			table("s", "t", columns(8), index("i", upTo(8)...), index("j", "h", "a", "d"), key("k", "c", "b"))}},
		"checks": {Schemas: schemas("s"), Tables: []api.Table{
			table("s", "t", columns(2), check("a", "a", low, high), check("b", "b", 0, 0), check("c", "a", low, low), check("d", "a", high, high), check("e", "b", -1, 0), check("f", "b", -3, -2))}},
		"two that name one another": {Schemas: schemas("s"), Tables: []api.Table{
			table("s", "t", columns(1), foreign("f", "s", "u", "k", "a"), key("k", "a")),
			table("s", "u", columns(1), foreign("f", "s", "t", "k", "a"), key("k", "a"))}},
		"a key of other names": {Schemas: schemas("s"), Tables: []api.Table{
			table("s", "t", []api.Column{whole("x"), text("y")}, key("k", "x", "y")),
			table("s", "u", []api.Column{null(text("m")), null(whole("n"))}, foreign("k", "s", "t", "k", "n", "m"))}},
		"a key of its own columns": {Schemas: schemas("s"), Tables: []api.Table{
			table("s", "t", columns(2), foreign("f", "s", "t", "k", "a", "b"), foreign("g", "s", "t", "k", "b", "a"), key("k", "a", "b"))}},
		"a schema of eight": {Schemas: schemas(upTo(2)...), Tables: manyTables("b", 8)},
	}
}

func TestCheckRight(t *testing.T) { // P7.1
	for name, o := range rightOnes() {
		for _, o := range []api.Objects{o, plain(o), cloned(o)} {
			was := cloned(o)
			if code := objects.Check(o); code != api.OK {
				t.Errorf("%s: %d", name, code)
			}
			if !same(o, was) {
				t.Errorf("Check of %s changes it", name)
			}
		}
	}
}

// wrong is a change by which market, or full, is not right any more.
type wrong struct {
	name   string
	change func(o *api.Objects)
}

// In market the tables are item, sale, stock and day, the rules of item a_cost, cheap, of, one and two, those of sale sold and when, those of day best and no.
const item, sale, stock, day = 0, 1, 2, 3

func wrongSchemas() []wrong {
	return []wrong{
		{"schemas that fall", func(o *api.Objects) { o.Schemas[0], o.Schemas[1] = o.Schemas[1], o.Schemas[0] }},
		{"schemas that fall at their end", func(o *api.Objects) { o.Schemas[2].Name = "c" }},
		{"a schema twice", func(o *api.Objects) { o.Schemas[2] = o.Schemas[1] }},
		{"a schema twice, of two owners", func(o *api.Objects) { o.Schemas[2] = api.Schema{Name: "d", Owner: "p"} }},
		{"a schema behind one that it begins", func(o *api.Objects) { o.Schemas = append(o.Schemas[:2], schemas("fa", "f")...) }},
		{"9 schemas", func(o *api.Objects) { o.Schemas = append(o.Schemas, schemas("g", "h", "i", "j", "k", "l")...) }},
		{"9 schemas, and no table", func(o *api.Objects) { o.Schemas, o.Tables = schemas(upTo(9)...), nil }},
		{"a schema with no name", func(o *api.Objects) { o.Schemas = append(schemas(""), o.Schemas...) }},
		{"a schema with a name that is none", func(o *api.Objects) { o.Schemas = append(schemas("A"), o.Schemas...) }},
		{"a last schema with a name that is none", func(o *api.Objects) { o.Schemas[2].Name = "f-" }},
		{"a schema with a name too long", func(o *api.Objects) { o.Schemas[2].Name = tooLong }},
		{"a schema without an owner", func(o *api.Objects) { o.Schemas[1].Owner = "" }},
		{"a schema with an owner that is no name", func(o *api.Objects) { o.Schemas[2].Owner = "1a" }},
		{"a schema with an owner too long", func(o *api.Objects) { o.Schemas[0].Owner = tooLong }},
	}
}

func wrongTables() []wrong {
	return []wrong{
		{"tables that fall", func(o *api.Objects) { o.Tables[item], o.Tables[sale] = o.Tables[sale], o.Tables[item] }},
		{"tables that fall by their schemas", func(o *api.Objects) { o.Tables[stock], o.Tables[day] = o.Tables[day], o.Tables[stock] }},
		{"tables that rise by their names alone", func(o *api.Objects) {
			o.Tables = append(o.Tables, table("b", "z", columns(1)))
		}},
		{"a table twice", func(o *api.Objects) { o.Tables[stock] = o.Tables[sale] }},
		{"a table's name twice", func(o *api.Objects) { o.Tables[stock].Name = "sale" }},
		{"9 tables of a schema", func(o *api.Objects) { o.Tables = append(o.Tables, manyTables("f", 9)...) }},
		{"9 tables of the first schema", func(o *api.Objects) { o.Tables = manyTables("b", 9) }},
		{"a table of a schema that is not there", func(o *api.Objects) { o.Tables = append(o.Tables, table("e", "t", columns(1))) }},
		{"a table of a schema that was there", func(o *api.Objects) { o.Schemas = o.Schemas[1:] }},
		{"a table of no schema", func(o *api.Objects) { o.Tables = append([]api.Table{table("", "t", columns(1))}, o.Tables...) }},
		{"tables without schemas", func(o *api.Objects) { o.Schemas = nil }},
		{"a table with no name", func(o *api.Objects) { o.Tables = append([]api.Table{table("b", "", columns(1))}, o.Tables...) }},
		{"a table with a name that is none", func(o *api.Objects) { o.Tables[stock].Name = "stocK" }},
		{"a table with a name too long", func(o *api.Objects) { o.Tables[stock].Name = tooLong }},
		{"a table without an owner", func(o *api.Objects) { o.Tables[stock].Owner = "" }},
		{"a table with an owner that is no name", func(o *api.Objects) { o.Tables[day].Owner = "_" }},
		{"a table with an owner too long", func(o *api.Objects) { o.Tables[item].Owner = tooLong }},
		{"a table without columns", func(o *api.Objects) { o.Tables[stock].Columns = nil }},
		{"9 columns", func(o *api.Objects) { o.Tables[stock].Columns = columns(9) }},
		{"9 columns of the last table", func(o *api.Objects) { o.Tables[day].Columns = append(o.Tables[day].Columns, columns(7)...) }},
		{"a column twice", func(o *api.Objects) { o.Tables[stock].Columns[1] = o.Tables[stock].Columns[0] }},
		{"a column's name twice, of two kinds", func(o *api.Objects) { o.Tables[stock].Columns[1].Name = "what" }},
		{"a column's name twice, far apart", func(o *api.Objects) { o.Tables[stock].Columns = append(columns(7), text("a")) }},
		{"a column with no name", func(o *api.Objects) { o.Tables[stock].Columns[1].Name = "" }},
		{"a column with a name that is none", func(o *api.Objects) { o.Tables[stock].Columns[0].Name = "wh at" }},
		{"a column with a name too long", func(o *api.Objects) { o.Tables[stock].Columns[0].Name = tooLong }},
		{"a column of null", func(o *api.Objects) { o.Tables[stock].Columns[0].Kind = api.ValueNull }},
		{"a column of no kind", func(o *api.Objects) { o.Tables[stock].Columns[1].Kind = 0 }},
		{"a column of the kind 4", func(o *api.Objects) { o.Tables[stock].Columns[1].Kind = 4 }},
		{"a column of the kind -2", func(o *api.Objects) { o.Tables[stock].Columns[1].Kind = -2 }},
	}
}

// ruled is a change of item's rules by which they are these, and all else is gone that would need the old ones.
func ruled(rules ...api.Rule) func(o *api.Objects) {
	return func(o *api.Objects) {
		o.Tables[item].Rules = rules
		o.Tables = o.Tables[:1]
	}
}

func wrongRules() []wrong {
	bent := func(r api.Rule, bend func(r *api.Rule)) func(o *api.Objects) {
		bend(&r)
		return ruled(r)
	}
	all := []wrong{
		{"rules that fall", func(o *api.Objects) { r := o.Tables[item].Rules; r[0], r[1] = r[1], r[0] }},
		{"rules that fall at their end", func(o *api.Objects) { r := o.Tables[item].Rules; r[3], r[4] = r[4], r[3] }},
		{"a rule twice", func(o *api.Objects) { o.Tables[item].Rules[1] = o.Tables[item].Rules[0] }},
		{"a rule's name twice, of two kinds", func(o *api.Objects) { o.Tables[item].Rules[1].Name = "a_cost" }},
		{"9 rules", ruled(indexes(9, "id")...)},
		{"a rule of no kind", bent(index("r", "id"), func(r *api.Rule) { r.Kind = 0 })},
		{"a rule of the kind 5", bent(index("r", "id"), func(r *api.Rule) { r.Kind = 5 })},
		{"a rule of the kind -1", bent(index("r", "id"), func(r *api.Rule) { r.Kind = -1 })},
		{"a check of a text", ruled(check("r", "name", 0, 1))},
		{"a check of two columns", bent(check("r", "id", 0, 1), func(r *api.Rule) { r.Columns = []string{"id", "cost"} })},
		{"a check of a column twice", bent(check("r", "id", 0, 1), func(r *api.Rule) { r.Columns = []string{"id", "id"} })},
		{"a check from 1 to 0", ruled(check("r", "id", 1, 0))},
		{"a check from 0 to -1", ruled(check("r", "id", 0, -1))},
		{"a check from the greatest to the least", ruled(check("r", "id", high, low))},
		{"a foreign rule without a schema", ruled(foreign("f", "", "item", "k", "id"), key("k", "id"))},
		{"a foreign rule without a table", ruled(foreign("f", "b", "", "k", "id"), key("k", "id"))},
		{"a foreign rule without a key", ruled(foreign("f", "b", "item", "", "id"), key("k", "id"))},
		{"a foreign rule with a schema that is no name", ruled(foreign("f", "B", "item", "k", "id"), key("k", "id"))},
		{"a foreign rule with a table that is no name", ruled(foreign("f", "b", "it em", "k", "id"), key("k", "id"))},
		{"a foreign rule with a key that is no name", ruled(foreign("f", "b", "item", "1k", "id"), key("k", "id"))},
		{"a foreign rule with Low", ruled(api.Rule{Name: "f", Kind: api.RuleForeign, Columns: []string{"id"}, Low: -1, Schema: "b", Table: "item", Key: "k"}, key("k", "id"))},
		{"a foreign rule with High", ruled(api.Rule{Name: "f", Kind: api.RuleForeign, Columns: []string{"id"}, High: 1, Schema: "b", Table: "item", Key: "k"}, key("k", "id"))},
		{"a foreign rule of a column twice", ruled(foreign("f", "b", "item", "k", "id", "id"), key("k", "id", "cost"))},
	}
	for _, r := range []api.Rule{index("r", "id"), key("r", "id"), check("r", "id", 0, 1), foreign("r", "b", "item", "k", "id")} {
		kind := string(rune('0' + r.Kind))
		bend := func(name string, bend func(r *api.Rule)) {
			r := r
			bend(&r)
			change := ruled(key("k", "id"), r) // the key that the foreign rule names is there
			if r.Name < "k" {
				change = ruled(r, key("k", "id"))
			}
			all = append(all, wrong{name + ", of the kind " + kind, change})
		}
		bend("a rule with no name", func(r *api.Rule) { r.Name = "" })
		bend("a rule with a name that is none", func(r *api.Rule) { r.Name = "rR" })
		bend("a rule with a name too long", func(r *api.Rule) { r.Name = tooLong })
		bend("a rule of no column", func(r *api.Rule) { r.Columns = nil })
		bend("a rule of an empty list of columns", func(r *api.Rule) { r.Columns = []string{} })
		bend("a rule of a column that is not there", func(r *api.Rule) { r.Columns = []string{"no"} })
		bend("a rule of a column with no name", func(r *api.Rule) { r.Columns = []string{""} })
		bend("a rule of a column that is another table's", func(r *api.Rule) { r.Columns = []string{"day"} })
		bend("a rule of a column twice", func(r *api.Rule) { r.Columns = []string{"id", "id"} })
		bend("a rule of a column twice, far apart", func(r *api.Rule) { r.Columns = []string{"id", "name", "part", "id"} })
		bend("a rule whose last column is not there", func(r *api.Rule) { r.Columns = []string{"id", "cost", "no"} })
		if r.Kind == api.RuleForeign {
			continue
		}
		bend("a rule with Schema", func(r *api.Rule) { r.Schema = "b" })
		bend("a rule with Table", func(r *api.Rule) { r.Table = "item" })
		bend("a rule with Key", func(r *api.Rule) { r.Key = "k" })
		bend("a rule with Schema, Table and Key", func(r *api.Rule) { r.Schema, r.Table, r.Key = "b", "item", "k" })
		if r.Kind == api.RuleCheck {
			continue
		}
		bend("a rule with Low", func(r *api.Rule) { r.Low = -1 })
		bend("a rule with High", func(r *api.Rule) { r.High = 1 })
		bend("a rule with Low and High", func(r *api.Rule) { r.Low, r.High = -5, 5 })
		bend("a rule with Low and High that are one", func(r *api.Rule) { r.Low, r.High = 1, 1 })
		bend("a rule with Low above High", func(r *api.Rule) { r.Low, r.High = 1, -1 })
	}
	return all
}

func wrongKeys() []wrong {
	sold := func(bend func(r *api.Rule)) func(o *api.Objects) {
		return func(o *api.Objects) { bend(&o.Tables[sale].Rules[0]) }
	}
	return []wrong{
		{"a foreign rule of a schema that is not there", sold(func(r *api.Rule) { r.Schema = "e" })},
		{"a foreign rule of an empty schema", sold(func(r *api.Rule) { r.Schema = "f" })},
		{"a foreign rule of a table that is another schema's", sold(func(r *api.Rule) { r.Schema = "d" })},
		{"a foreign rule of a table that is not there", sold(func(r *api.Rule) { r.Table = "items" })},
		{"a foreign rule of a table without rules", sold(func(r *api.Rule) { r.Table = "stock" })},
		{"a foreign rule of a key that is not there", sold(func(r *api.Rule) { r.Key = "three" })},
		{"a foreign rule of an index", sold(func(r *api.Rule) { r.Key, r.Columns = "a_cost", []string{"of", "day"} })},
		{"a foreign rule of a check", sold(func(r *api.Rule) { r.Key, r.Columns = "cheap", []string{"of"} })},
		{"a foreign rule of a foreign rule", sold(func(r *api.Rule) { r.Key, r.Columns = "of", []string{"of"} })},
		{"a foreign rule of itself", sold(func(r *api.Rule) { r.Table, r.Key = "sale", "sold" })},
		{"a foreign rule of a key of fewer columns", sold(func(r *api.Rule) { r.Key = "one" })},
		{"a foreign rule of a key of more columns", sold(func(r *api.Rule) { r.Columns = []string{"of"} })},
		{"a foreign rule of a key of another kind", sold(func(r *api.Rule) { r.Key, r.Columns = "one", []string{"what"} })},
		{"a foreign rule of a key of other kinds in order", sold(func(r *api.Rule) { r.Columns = []string{"what", "of"} })},
		{"a foreign rule of a key whose last kind is another", sold(func(r *api.Rule) { r.Columns = []string{"of", "day"} })},
		{"a foreign rule whose key is gone", func(o *api.Objects) { o.Tables[item].Rules = o.Tables[item].Rules[:4] }},
		{"a foreign rule whose table is gone", func(o *api.Objects) { o.Tables = o.Tables[1:] }},
		{"a foreign rule of its own table, whose key is an index", ruled(foreign("f", "b", "item", "k", "id"), index("k", "id"))},
		{"a foreign rule of its own table, of another kind", ruled(foreign("f", "b", "item", "k", "name"), key("k", "id"))},
		{"the last table's last rule has no key", func(o *api.Objects) {
			*o = full()
			o.Tables[63].Rules[7].Key = "d"
		}},
	}
}

func wrongOnes() []wrong {
	var all []wrong
	for _, list := range [][]wrong{wrongSchemas(), wrongTables(), wrongRules(), wrongKeys()} {
		all = append(all, list...)
	}
	return all
}

// everyCall answers calls of each kind: those that would be right, and those that would be refused otherwise.
func everyCall() []call {
	return []call{
		addSchema("g", "o"), addSchema("", "o"), addSchema("b", "o"),
		dropSchema("f"), dropSchema("none"), dropSchema("b"),
		addTable(table("b", "t", columns(1))), addTable(table("b", "", columns(1))), addTable(table("none", "t", columns(1))), addTable(table("b", "item", columns(1))), addTable(table("b", "t", nil)),
		dropTable("b", "stock"), dropTable("b", "none"), dropTable("b", "item"),
		addColumn("b", "stock", null(whole("new"))), addColumn("b", "none", null(whole("new"))), addColumn("b", "stock", whole("new")), addColumn("b", "stock", null(whole("what"))),
		dropColumn("b", "item", "spare"), dropColumn("b", "item", "none"), dropColumn("b", "item", "id"),
		addRule("b", "stock", index("new", "much")), addRule("b", "none", index("new", "much")), addRule("b", "stock", index("new")), addRule("b", "item", index("one", "id")), addRule("b", "stock", foreign("new", "b", "none", "k", "much")),
		dropRule("b", "item", "cheap"), dropRule("b", "none", "cheap"), dropRule("b", "item", "none"), dropRule("b", "item", "one"),
		setOwner("b", "stock", "p"), setOwner("b", "stock", ""), setOwner("b", "none", "p"),
	}
}

func TestCheckWrong(t *testing.T) { // P7.1: each way in which objects are not right, and that it goes ahead of all else
	for _, w := range wrongOnes() {
		o := plain(market())
		w.change(&o)
		if code := objects.Check(o); code != api.ErrObjectForm {
			t.Errorf("%s: Check: %d", w.name, code)
		}
		if code := objects.Check(cloned(o)); code != api.ErrObjectForm {
			t.Errorf("%s: Check: %d", w.name, code)
		}
		for _, at := range [][2]string{{"b", "stock"}, {"b", "none"}, {"", ""}} {
			found, code := objects.Find(o, at[0], at[1])
			if code != api.ErrObjectForm || !same(found, api.Table{}) {
				t.Errorf("%s: Find: %v, %d", w.name, found, code)
			}
		}
		for _, c := range everyCall() {
			refused(t, o, c, api.ErrObjectForm)
		}
		if t.Failed() {
			t.Fatal(w.name)
		}
	}
}

func TestBentRulesWereRight(t *testing.T) { // what wrongRules bends
	for _, rules := range [][]api.Rule{
		indexes(8, "id"),
		{foreign("f", "b", "item", "k", "id"), key("k", "id")},
		{foreign("f", "b", "item", "k", "cost", "id"), key("k", "id", "cost")},
		{key("k", "id"), index("r", "id")},
		{key("k", "id"), key("r", "id")},
		{key("k", "id"), check("r", "id", 0, 1)},
		{key("k", "id"), foreign("r", "b", "item", "k", "id")},
	} {
		o := market()
		ruled(rules...)(&o)
		if code := objects.Check(o); code != api.OK {
			t.Errorf("%v: %d", rules, code)
		}
	}
}

func TestCheckOfVeryMany(t *testing.T) { // R1: lists far beyond the limits end, soon
	const n = 300000
	many := func(name string) []string {
		list := make([]string, n)
		for i := range list {
			list[i] = name
		}
		return list
	}
	wide := make([]api.Column, n)
	for i := range wide {
		wide[i] = whole("x")
	}
	rules := make([]api.Rule, n)
	for i := range rules {
		rules[i] = foreign("f", "s", "t", "k", "x")
	}
	tables := make([]api.Table, n)
	for i := range tables {
		tables[i] = table("s", "t", columns(1), index("i", "a"))
	}
	for _, o := range []api.Objects{
		{Schemas: make([]api.Schema, n)},
		{Tables: make([]api.Table, n)},
		{Schemas: schemas("s"), Tables: tables},
		{Schemas: schemas("s"), Tables: manyTables("s", 26)},
		{Schemas: schemas("s"), Tables: []api.Table{table("s", "t", wide)}},
		{Schemas: schemas("s"), Tables: []api.Table{table("s", "t", columns(1), rules...)}},
		{Schemas: schemas("s"), Tables: []api.Table{table("s", "t", columns(1), index("i", many("a")...))}},
		{Schemas: schemas("s"), Tables: []api.Table{table("s", "t", columns(1), index("i", many("no")...))}},
	} {
		if code := objects.Check(o); code != api.ErrObjectForm {
			t.Errorf("%d schemas, %d tables: %d", len(o.Schemas), len(o.Tables), code)
		}
	}
	for _, c := range []call{addTable(table("b", "t", wide)), addTable(table("b", "t", columns(1), rules...)), addRule("b", "stock", index("i", many("much")...)), addRule("b", "stock", index("i", many("no")...))} {
		refused(t, market(), c, api.ErrObjectForm)
	}
}
