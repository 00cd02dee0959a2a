package objects_test

import (
	"reflect"
	"slices"
	"testing"

	"folkmoot/api"
	"folkmoot/objects"
)

func found(t *testing.T, o api.Objects, schema, table string, want api.Table, wantCode api.Errno) {
	t.Helper()
	out, code := objects.Find(o, schema, table)
	if code != wantCode || !same(out, want) {
		t.Errorf("Find %s %s: %v, %d; want %v, %d", schema, table, out, code, want, wantCode)
	}
}

// with answers o with the change made.
func with(o api.Objects, change func(o *api.Objects)) api.Objects {
	o = plain(o)
	change(&o)
	return o
}

func TestExamples(t *testing.T) { // P7.2 to P7.6
	o := example()
	refused(t, o, addSchema("s", "o"), api.ErrObjectThere)
	refused(t, o, addSchema("S", "o"), api.ErrArg)
	refused(t, o, dropSchema("s"), api.ErrObjectUsed)
	refused(t, o, addColumn("s", "t", whole("z")), api.ErrObjectForm)
	gives(t, o, addColumn("s", "t", null(whole("z"))), with(o, func(o *api.Objects) {
		o.Tables[0].Columns = []api.Column{whole("x"), null(text("y")), null(whole("z"))}
	}))
	refused(t, o, dropColumn("s", "t", "x"), api.ErrObjectUsed)
	gives(t, o, dropColumn("s", "t", "y"), with(o, func(o *api.Objects) { o.Tables[0].Columns = []api.Column{whole("x")} }))
	refused(t, o, addRule("s", "t", foreign("f", "s", "t", "k", "y")), api.ErrObjectForm)
	f := foreign("f", "s", "t", "k", "x")
	then := with(o, func(o *api.Objects) { o.Tables[0].Rules = []api.Rule{f, key("k", "x")} })
	gives(t, o, addRule("s", "t", f), then)
	refused(t, then, dropRule("s", "t", "k"), api.ErrObjectUsed)
	gives(t, then, dropTable("s", "t"), api.Objects{Schemas: schemas("s")})
}

func TestFind(t *testing.T) { // P7.2
	for _, o := range []api.Objects{example(), market(), full()} {
		for _, want := range o.Tables {
			found(t, o, want.Schema, want.Name, want, api.OK)
			found(t, cloned(o), want.Schema, want.Name, want, api.OK)
		}
	}
	o := market()
	for _, at := range [][2]string{{"b", "none"}, {"none", "item"}, {"d", "item"}, {"f", "item"}, {"f", "day"}, {"b", "day"}, {"b", ""}, {"", "item"}, {"", ""}, {"item", "b"}, {"b", "items"}, {"b", "ite"}, {"B", "item"}, {"b", tooLong}} {
		found(t, o, at[0], at[1], api.Table{}, api.ErrObjectNone)
	}
	found(t, api.Objects{}, "s", "t", api.Table{}, api.ErrObjectNone)
	found(t, api.Objects{Schemas: schemas("s")}, "s", "t", api.Table{}, api.ErrObjectNone)
}

func TestFindIsNewMemory(t *testing.T) { // R2
	o := cloned(market())
	was := cloned(o)
	a, _ := objects.Find(o, "b", "item")
	b, _ := objects.Find(o, "b", "item")
	apart(t, "Find", &o, &a, &b)
	if !untouched(o, was) {
		t.Errorf("Find wrote into what was handed in: %v", o)
	}
}

func TestSetOwner(t *testing.T) { // P7.2
	o := market()
	for i, at := range o.Tables {
		for _, owner := range []string{"p", "o", "a_1", longest, "root"} {
			gives(t, o, setOwner(at.Schema, at.Name, owner), with(o, func(o *api.Objects) { o.Tables[i].Owner = owner }))
		}
	}
	for _, owner := range noNames {
		refused(t, o, setOwner("b", "item", owner), api.ErrArg)
		refused(t, o, setOwner("b", "none", owner), api.ErrArg) // ahead of ErrObjectNone
		refused(t, api.Objects{}, setOwner("", "", owner), api.ErrArg)
	}
	refused(t, o, setOwner("b", "none", "p"), api.ErrObjectNone)
	refused(t, o, setOwner("d", "item", "p"), api.ErrObjectNone)
	refused(t, o, setOwner("f", "day", "p"), api.ErrObjectNone)
	refused(t, o, setOwner("", "", "p"), api.ErrObjectNone)
	refused(t, api.Objects{}, setOwner("b", "item", "p"), api.ErrObjectNone)
}

func TestAddSchema(t *testing.T) { // P7.3: at the front, in the midst, at the end
	o := market() // b, d, f
	for _, c := range []struct {
		name string
		at   int
	}{{"a", 0}, {"b0", 1}, {"c", 1}, {"d_", 2}, {"da", 2}, {"e", 2}, {"f0", 3}, {longest, 3}} {
		gives(t, o, addSchema(c.name, "p"), with(o, func(o *api.Objects) {
			o.Schemas = slices.Insert(o.Schemas, c.at, api.Schema{Name: c.name, Owner: "p"})
		}))
	}
	gives(t, api.Objects{}, addSchema("s", longest), api.Objects{Schemas: []api.Schema{{Name: "s", Owner: longest}}})
	gives(t, o, addSchema("a_1", "a_1"), with(o, func(o *api.Objects) {
		o.Schemas = slices.Insert(o.Schemas, 0, api.Schema{Name: "a_1", Owner: "a_1"})
	}))
}

func TestAddSchemaRefused(t *testing.T) { // P7.3
	o := market()
	most := full()
	for _, name := range noNames {
		refused(t, o, addSchema(name, "p"), api.ErrArg)
		refused(t, o, addSchema("new", name), api.ErrArg)
		refused(t, o, addSchema("b", name), api.ErrArg)      // ahead of ErrObjectThere
		refused(t, most, addSchema(name, "p"), api.ErrArg)   // ahead of ErrLimit
		refused(t, most, addSchema("new", name), api.ErrArg) // ahead of ErrLimit
		refused(t, most, addSchema("a", name), api.ErrArg)
	}
	for _, name := range []string{"b", "d", "f"} {
		refused(t, o, addSchema(name, "o"), api.ErrObjectThere)
		refused(t, o, addSchema(name, "p"), api.ErrObjectThere)
	}
	for _, name := range upTo(8) {
		refused(t, most, addSchema(name, "p"), api.ErrObjectThere) // ahead of ErrLimit
	}
	seven := api.Objects{Schemas: schemas(upTo(7)...)}
	eight := api.Objects{Schemas: schemas(upTo(8)...)}
	gives(t, seven, addSchema("h", "o"), eight)
	refused(t, eight, addSchema("i", "o"), api.ErrLimit)
	refused(t, most, addSchema("a0", "o"), api.ErrLimit)
	refused(t, most, addSchema(longest, "o"), api.ErrLimit)
}

func TestDropSchema(t *testing.T) { // P7.3
	o := market()
	gives(t, o, dropSchema("f"), with(o, func(o *api.Objects) { o.Schemas = o.Schemas[:2] }))
	refused(t, o, dropSchema("b"), api.ErrObjectUsed)
	refused(t, o, dropSchema("d"), api.ErrObjectUsed)
	for _, name := range append(noNames, "a", "c", "ff", "item", "o") {
		refused(t, o, dropSchema(name), api.ErrObjectNone)
		refused(t, api.Objects{}, dropSchema(name), api.ErrObjectNone)
	}
	eight := api.Objects{Schemas: schemas(upTo(8)...)}
	for i, name := range upTo(8) {
		gives(t, eight, dropSchema(name), with(eight, func(o *api.Objects) { o.Schemas = slices.Delete(o.Schemas, i, i+1) }))
		refused(t, full(), dropSchema(name), api.ErrObjectUsed)
	}
	gives(t, api.Objects{Schemas: schemas("s")}, dropSchema("s"), api.Objects{})
}

func TestAddTable(t *testing.T) { // P7.4: at the front, in the midst, at the end, of all and of its schema
	o := market() // b: item, sale, stock; d: day; f: none
	for _, c := range []struct {
		schema, name string
		at           int
	}{{"b", "a", 0}, {"b", "it", 0}, {"b", "items", 1}, {"b", "salf", 2}, {"b", "sale0", 2}, {"b", "t", 3}, {"b", longest, 3}, {"d", "a", 3}, {"d", "da", 3}, {"d", "day_", 4}, {"d", "item", 4}, {"f", "a", 4}, {"f", "item", 4}} {
		added := api.Table{Schema: c.schema, Name: c.name, Owner: "p", Columns: []api.Column{null(text("z")), whole("a"), null(whole("b")), text("y")}}
		gives(t, o, addTable(added), with(o, func(o *api.Objects) { o.Tables = slices.Insert(o.Tables, c.at, added) }))
	}
	for _, added := range []api.Table{
		{Schema: "s", Name: "t", Owner: "z", Columns: columns(8)},
		{Schema: "s", Name: "s", Owner: longest, Columns: columns(1)},
		{Schema: "s", Name: longest, Owner: "a", Columns: []api.Column{null(whole(longest))}},
		{Schema: "s", Name: "t", Owner: "a", Columns: []api.Column{text("t")}, Rules: []api.Rule{}},
	} {
		gives(t, api.Objects{Schemas: schemas("s")}, addTable(added), api.Objects{Schemas: schemas("s"), Tables: []api.Table{added}})
	}
}

func TestAddTableRefused(t *testing.T) { // P7.4: each error, and which goes ahead
	o := market()
	add := func(schema, name, owner string, columns []api.Column, rules ...api.Rule) call {
		return addTable(api.Table{Schema: schema, Name: name, Owner: owner, Columns: columns, Rules: rules})
	}
	one := columns(1)
	eight := with(o, func(o *api.Objects) { o.Tables = append(o.Tables, manyTables("f", 8)...) })
	for _, name := range noNames {
		refused(t, o, add("b", name, "p", one), api.ErrArg)
		refused(t, o, add("b", "new", name, one), api.ErrArg)
		refused(t, o, add("none", name, "p", one), api.ErrArg) // ahead of ErrObjectNone
		refused(t, o, add("none", "new", name, one), api.ErrArg)
		refused(t, o, add("b", "item", name, one), api.ErrArg)    // ahead of ErrObjectThere
		refused(t, eight, add("f", name, "p", one), api.ErrArg)   // ahead of ErrLimit
		refused(t, eight, add("f", "new", name, one), api.ErrArg) // ahead of ErrLimit
		refused(t, o, add("b", name, "p", nil), api.ErrArg)       // ahead of ErrObjectForm
		refused(t, o, add("b", "new", name, nil), api.ErrArg)
		refused(t, o, add(name, "new", "p", one), api.ErrObjectNone) // what is no name is no schema's
		refused(t, o, add(name, "new", "p", nil), api.ErrObjectNone)
	}
	refused(t, o, add("none", "new", "p", one), api.ErrObjectNone)
	refused(t, o, add("none", "item", "p", one), api.ErrObjectNone)
	refused(t, o, add("none", "new", "p", nil), api.ErrObjectNone) // ahead of ErrObjectForm
	refused(t, o, add("none", "new", "p", one, index("i", "a")), api.ErrObjectNone)
	refused(t, api.Objects{}, add("s", "t", "p", one), api.ErrObjectNone)

	refused(t, o, add("b", "item", "p", one), api.ErrObjectThere)
	refused(t, o, addTable(o.Tables[stock]), api.ErrObjectThere)
	refused(t, o, add("d", "day", "p", nil), api.ErrObjectThere) // ahead of ErrObjectForm
	refused(t, o, add("b", "stock", "p", one, index("i", "a")), api.ErrObjectThere)
	for _, name := range upTo(8) {
		refused(t, eight, add("f", name, "p", one), api.ErrObjectThere) // ahead of ErrLimit
	}

	refused(t, eight, add("f", "i", "p", one), api.ErrLimit)
	refused(t, eight, add("f", "a0", "p", one), api.ErrLimit)
	refused(t, eight, add("f", "i", "p", nil), api.ErrLimit) // ahead of ErrObjectForm
	refused(t, eight, add("f", "i", "p", one, index("i", "a")), api.ErrLimit)
	refused(t, full(), add("a", "i", "p", one), api.ErrLimit)
}

func TestAddTableForm(t *testing.T) { // P7.4
	o := market()
	for _, list := range [][]api.Column{
		nil, {}, columns(9), columns(20),
		{whole("")}, {whole("1a")}, {whole(tooLong)}, {whole("a"), text("B")},
		{{Name: "a"}}, {{Name: "a", Kind: api.ValueNull}}, {{Name: "a", Kind: 4}}, {{Name: "a", Kind: -1}}, {whole("b"), {Name: "a", Kind: 1, Null: true}},
		{whole("a"), whole("a")}, {whole("a"), null(text("a"))}, append(columns(7), whole("a")), append(columns(7), whole("g")),
	} {
		refused(t, o, addTable(table("b", "new", list)), api.ErrObjectForm)
	}
	for _, r := range []api.Rule{{}, index("i", "a"), key("k", "a"), check("c", "a", 0, 1), foreign("f", "b", "item", "one", "a")} {
		refused(t, o, addTable(table("b", "new", columns(1), r)), api.ErrObjectForm)
	}
}

func TestTablesOfASchema(t *testing.T) { // P7.4: the eighth goes, the ninth does not, whatever other schemas have
	for _, schema := range upTo(3) {
		o := with(full(), func(o *api.Objects) {
			o.Tables = nil
			for _, s := range upTo(3) {
				n := 8
				if s == schema {
					n = 7
				}
				o.Tables = append(o.Tables, manyTables(s, n)...)
			}
		})
		h := table(schema, "h", columns(1))
		want := with(o, func(o *api.Objects) {
			o.Tables = slices.Insert(o.Tables, 8*int(schema[0]-'a')+7, h)
		})
		gives(t, o, addTable(h), want)
		refused(t, want, addTable(table(schema, "i", columns(1))), api.ErrLimit)
		gives(t, want, addTable(table("d", "i", columns(1))), with(want, func(o *api.Objects) { o.Tables = append(o.Tables, table("d", "i", columns(1))) }))
	}
}

func TestDropTable(t *testing.T) { // P7.4
	o := market()
	refused(t, o, dropTable("b", "item"), api.ErrObjectUsed)
	refused(t, o, dropTable("d", "day"), api.ErrObjectUsed)
	gives(t, o, dropTable("b", "sale"), with(o, func(o *api.Objects) { o.Tables = slices.Delete(o.Tables, sale, sale+1) }))
	gives(t, o, dropTable("b", "stock"), with(o, func(o *api.Objects) { o.Tables = slices.Delete(o.Tables, stock, stock+1) }))
	for _, at := range [][2]string{{"b", "none"}, {"none", "item"}, {"d", "item"}, {"f", "day"}, {"", ""}, {"b", ""}, {"", "stock"}, {"b", "stoc"}, {"b", "one"}} {
		refused(t, o, dropTable(at[0], at[1]), api.ErrObjectNone)
	}
	refused(t, api.Objects{}, dropTable("s", "t"), api.ErrObjectNone)
	gives(t, example(), dropTable("s", "t"), api.Objects{Schemas: schemas("s")})
	for _, at := range full().Tables {
		if at.Schema >= "e" { // tables of all schemas name those of the last four
			refused(t, full(), dropTable(at.Schema, at.Name), api.ErrObjectUsed)
			continue
		}
		gives(t, full(), dropTable(at.Schema, at.Name), with(full(), func(o *api.Objects) {
			o.Tables = slices.DeleteFunc(o.Tables, func(t api.Table) bool { return t.Schema == at.Schema && t.Name == at.Name })
		}))
	}
}

func TestDropTableThatNamesItself(t *testing.T) { // P7.4: only another table's foreign rule holds it
	own := table("s", "t", columns(1), foreign("f", "s", "t", "k", "a"), key("k", "a"))
	alike := own // of the same name in another schema
	alike.Schema = "r"
	others := table("s", "u", columns(1), foreign("f", "s", "t", "k", "a"))
	behind := table("u", "t", columns(1), foreign("f", "s", "t", "k", "a"))
	o := api.Objects{Schemas: schemas("r", "s", "u"), Tables: []api.Table{own}}
	gives(t, o, dropTable("s", "t"), api.Objects{Schemas: o.Schemas})
	o.Tables = []api.Table{own, others}
	refused(t, o, dropTable("s", "t"), api.ErrObjectUsed)
	gives(t, o, dropTable("s", "u"), api.Objects{Schemas: o.Schemas, Tables: []api.Table{own}})
	o.Tables = []api.Table{own, behind}
	refused(t, o, dropTable("s", "t"), api.ErrObjectUsed)
	gives(t, o, dropTable("u", "t"), api.Objects{Schemas: o.Schemas, Tables: []api.Table{own}})
	o.Tables = []api.Table{alike, own}
	refused(t, o, dropTable("s", "t"), api.ErrObjectUsed) // r.t names the one of s
	gives(t, o, dropTable("r", "t"), api.Objects{Schemas: o.Schemas, Tables: []api.Table{own}})
	o.Tables = []api.Table{
		table("s", "t", columns(1), foreign("f", "s", "u", "k", "a"), key("k", "a")),
		table("s", "u", columns(1), foreign("f", "s", "t", "k", "a"), key("k", "a")),
	}
	refused(t, o, dropTable("s", "t"), api.ErrObjectUsed)
	refused(t, o, dropTable("s", "u"), api.ErrObjectUsed)
}

func TestAddColumn(t *testing.T) { // P7.5: the table's last one, whatever its name
	o := market()
	for i, at := range o.Tables {
		for _, c := range []api.Column{null(whole("a")), null(text("a")), null(whole(longest)), null(text("m")), null(whole("zz"))} {
			gives(t, o, addColumn(at.Schema, at.Name, c), with(o, func(o *api.Objects) { o.Tables[i].Columns = append(o.Tables[i].Columns, c) }))
		}
	}
}

func TestAddColumnRefused(t *testing.T) { // P7.5
	o := market()
	eight := with(o, func(o *api.Objects) { o.Tables[stock].Columns = columns(8) })
	seven := with(o, func(o *api.Objects) { o.Tables[stock].Columns = columns(7) })
	refused(t, o, addColumn("b", "none", null(whole("new"))), api.ErrObjectNone)
	refused(t, o, addColumn("d", "stock", null(whole("new"))), api.ErrObjectNone)
	refused(t, o, addColumn("none", "stock", null(whole("new"))), api.ErrObjectNone)
	refused(t, o, addColumn("", "", null(whole("new"))), api.ErrObjectNone)
	refused(t, api.Objects{}, addColumn("b", "stock", null(whole("new"))), api.ErrObjectNone)
	refused(t, o, addColumn("b", "none", whole("new")), api.ErrObjectNone) // ahead of ErrObjectForm
	refused(t, o, addColumn("b", "none", api.Column{}), api.ErrObjectNone)
	refused(t, o, addColumn("b", "none", null(whole("what"))), api.ErrObjectNone)

	forms := []api.Column{{}, {Null: true}, whole("new"), text("new"), {Name: "new", Null: true}}
	for _, kind := range []api.ValueKind{low, -2, -1, 0, api.ValueNull, 4, 5, 23, high} {
		forms = append(forms, api.Column{Name: "new", Kind: kind, Null: true})
	}
	for _, name := range noNames {
		forms = append(forms, null(whole(name)), null(text(name)))
	}
	for _, c := range forms {
		refused(t, o, addColumn("b", "stock", c), api.ErrObjectForm)
		refused(t, eight, addColumn("b", "stock", c), api.ErrObjectForm) // ahead of ErrLimit
	}
	refused(t, o, addColumn("b", "stock", whole("what")), api.ErrObjectForm) // ahead of ErrObjectThere
	refused(t, o, addColumn("b", "stock", api.Column{Name: "much", Kind: 1, Null: true}), api.ErrObjectForm)

	refused(t, o, addColumn("b", "stock", null(text("what"))), api.ErrObjectThere)
	refused(t, o, addColumn("b", "stock", null(text("much"))), api.ErrObjectThere)
	for _, name := range upTo(8) {
		refused(t, eight, addColumn("b", "stock", null(whole(name))), api.ErrObjectThere) // ahead of ErrLimit
	}
	gives(t, seven, addColumn("b", "stock", null(whole("new"))), with(seven, func(o *api.Objects) {
		o.Tables[stock].Columns = append(o.Tables[stock].Columns, null(whole("new")))
	}))
	refused(t, eight, addColumn("b", "stock", null(whole("new"))), api.ErrLimit)
	refused(t, full(), addColumn("h", "h", null(text("new"))), api.ErrLimit)
}

func TestDropColumn(t *testing.T) { // P7.5
	o := market()
	for _, c := range []struct {
		schema, table string
		i             int
		name          string
		at            int
	}{{"b", "item", item, "spare", 4}, {"b", "stock", stock, "what", 0}, {"b", "stock", stock, "much", 1}} {
		gives(t, o, dropColumn(c.schema, c.table, c.name), with(o, func(o *api.Objects) {
			o.Tables[c.i].Columns = slices.Delete(o.Tables[c.i].Columns, c.at, c.at+1)
		}))
	}
	for i, name := range upTo(8) {
		eight := api.Objects{Schemas: schemas("s"), Tables: []api.Table{table("s", "t", columns(8))}}
		gives(t, eight, dropColumn("s", "t", name), with(eight, func(o *api.Objects) { o.Tables[0].Columns = slices.Delete(o.Tables[0].Columns, i, i+1) }))
		if name != "f" && name != "g" { // these two are columns of none of its rules
			refused(t, full(), dropColumn("c", "d", name), api.ErrObjectUsed)
			continue
		}
		gives(t, full(), dropColumn("c", "d", name), with(full(), func(o *api.Objects) { o.Tables[19].Columns = slices.Delete(o.Tables[19].Columns, i, i+1) }))
	}
}

func TestDropColumnRefused(t *testing.T) { // P7.5
	o := market()
	refused(t, o, dropColumn("b", "none", "id"), api.ErrObjectNone)
	refused(t, o, dropColumn("none", "item", "id"), api.ErrObjectNone)
	refused(t, o, dropColumn("d", "item", "id"), api.ErrObjectNone)
	refused(t, o, dropColumn("b", "item", "none"), api.ErrObjectNone)
	refused(t, o, dropColumn("b", "item", ""), api.ErrObjectNone)
	refused(t, o, dropColumn("b", "item", "day"), api.ErrObjectNone)
	refused(t, o, dropColumn("b", "item", "one"), api.ErrObjectNone) // a rule is no column
	refused(t, api.Objects{}, dropColumn("b", "item", "id"), api.ErrObjectNone)

	for _, name := range []string{"id", "name", "part", "cost"} {
		refused(t, o, dropColumn("b", "item", name), api.ErrObjectUsed)
	}
	for _, name := range []string{"what", "of", "day"} {
		refused(t, o, dropColumn("b", "sale", name), api.ErrObjectUsed)
	}
	for _, r := range []api.Rule{index("r", "b"), key("r", "b"), check("r", "b", 0, 1), index("r", "a", "b"), key("r", "c", "a", "b")} {
		o := api.Objects{Schemas: schemas("s"), Tables: []api.Table{table("s", "t", columns(4), r)}}
		refused(t, o, dropColumn("s", "t", "b"), api.ErrObjectUsed)
		gives(t, o, dropColumn("s", "t", "d"), with(o, func(o *api.Objects) { o.Tables[0].Columns = o.Tables[0].Columns[:3] }))
	}

	one := api.Objects{Schemas: schemas("s"), Tables: []api.Table{table("s", "t", columns(1))}}
	refused(t, one, dropColumn("s", "t", "a"), api.ErrObjectUsed)
	refused(t, one, dropColumn("s", "t", "b"), api.ErrObjectNone) // ahead of ErrObjectUsed
	one.Tables[0].Rules = []api.Rule{index("i", "a")}
	refused(t, one, dropColumn("s", "t", "a"), api.ErrObjectUsed)
	two := api.Objects{Schemas: schemas("s"), Tables: []api.Table{table("s", "t", columns(2)), table("s", "u", columns(2), key("k", "a", "b"))}}
	gives(t, two, dropColumn("s", "t", "a"), with(two, func(o *api.Objects) { o.Tables[0].Columns = o.Tables[0].Columns[1:] })) // u's rules do not hold t's
}

func TestAddRule(t *testing.T) { // P7.6: each kind, at the front, in the midst, at the end
	o := market() // item's rules: a_cost, cheap, of, one, two
	for _, c := range []struct {
		name string
		at   int
	}{{"a", 0}, {"a_cos", 0}, {"a_cost0", 1}, {"b", 1}, {"d", 2}, {"ofo", 3}, {"one_", 4}, {"twp", 5}, {longest, 5}} {
		for _, r := range []api.Rule{
			index(c.name, "spare"), index(c.name, "spare", "id", "cost", "name", "part"), index(c.name, "cost", "id"),
			key(c.name, "part"), key(c.name, "name", "id"), key(c.name, "id"),
			check(c.name, "spare", low, high), check(c.name, "cost", -5, -5), check(c.name, "cost", 0, 0),
			foreign(c.name, "d", "day", "no", "cost"), foreign(c.name, "b", "item", "one", "id"), foreign(c.name, "b", "item", "two", "cost", "name"),
		} {
			gives(t, o, addRule("b", "item", r), with(o, func(o *api.Objects) { o.Tables[item].Rules = slices.Insert(o.Tables[item].Rules, c.at, r) }))
		}
	}
	for _, r := range []api.Rule{index("i", "what"), key("what", "much", "what"), check(longest, "much", 1, 2), foreign("f", "b", "item", "two", "much", "what")} {
		gives(t, o, addRule("b", "stock", r), with(o, func(o *api.Objects) { o.Tables[stock].Rules = []api.Rule{r} }))
	}
}

func TestAddRuleRefused(t *testing.T) { // P7.6: each error, and which goes ahead
	o := market()
	full := with(o, func(o *api.Objects) { o.Tables[stock].Rules = indexes(8, "much") })
	fit := index("new", "much")
	noKey := foreign("new", "b", "none", "k", "much")
	otherKey := foreign("new", "b", "item", "one", "what")
	for _, r := range []api.Rule{fit, noKey, otherKey, {}, index("new", "none"), {Name: "one", Kind: 9}} { // ahead of all
		refused(t, o, addRule("b", "none", r), api.ErrObjectNone)
		refused(t, o, addRule("none", "stock", r), api.ErrObjectNone)
		refused(t, o, addRule("d", "stock", r), api.ErrObjectNone)
		refused(t, o, addRule("", "", r), api.ErrObjectNone)
		refused(t, api.Objects{}, addRule("b", "stock", r), api.ErrObjectNone)
	}

	refused(t, o, addRule("b", "item", index("one", "none")), api.ErrObjectForm) // ahead of ErrObjectThere
	refused(t, o, addRule("b", "item", check("one", "id", 1, 0)), api.ErrObjectForm)
	refused(t, full, addRule("b", "stock", index("new")), api.ErrObjectForm) // ahead of ErrLimit
	refused(t, full, addRule("b", "stock", index("a", "much", "much")), api.ErrObjectForm)
	refused(t, o, addRule("b", "stock", foreign("new", "b", "none", "k", "none")), api.ErrObjectForm) // ahead of its own ErrObjectNone
	refused(t, o, addRule("b", "stock", foreign("new", "b", "", "k", "much")), api.ErrObjectForm)

	for _, r := range o.Tables[item].Rules {
		refused(t, o, addRule("b", "item", r), api.ErrObjectThere)
		refused(t, o, addRule("b", "item", index(r.Name, "id")), api.ErrObjectThere)
		refused(t, o, addRule("b", "item", foreign(r.Name, "b", "none", "k", "id")), api.ErrObjectThere)    // ahead of ErrObjectNone
		refused(t, o, addRule("b", "item", foreign(r.Name, "b", "item", "two", "id")), api.ErrObjectThere)  // ahead of ErrObjectForm
		refused(t, o, addRule("b", "item", foreign(r.Name, "b", "item", r.Name, "id")), api.ErrObjectThere) // itself as its key
	}
	for _, name := range upTo(8) {
		refused(t, full, addRule("b", "stock", index(name, "what")), api.ErrObjectThere) // ahead of ErrLimit
	}

	refused(t, full, addRule("b", "stock", fit), api.ErrLimit)
	refused(t, full, addRule("b", "stock", noKey), api.ErrLimit) // ahead of ErrObjectNone
	refused(t, full, addRule("b", "stock", otherKey), api.ErrLimit)
	for _, kind := range []api.Rule{index("h", "what"), key("h", "what"), check("h", "much", 0, 1), foreign("h", "b", "item", "one", "much")} {
		seven := with(o, func(o *api.Objects) { o.Tables[stock].Rules = indexes(7, "much") })
		want := with(seven, func(o *api.Objects) { o.Tables[stock].Rules = append(o.Tables[stock].Rules, kind) })
		gives(t, seven, addRule("b", "stock", kind), want)
		refused(t, want, addRule("b", "stock", fit), api.ErrLimit)
	}
}

func TestAddRuleForm(t *testing.T) { // P7.6: a rule that does not fit, in each of the ways
	for _, w := range wrongRules() {
		o := plain(market())
		w.change(&o)
		if len(o.Tables) > 1 || len(o.Tables[0].Rules) > 2 { // it is not one rule that is wrong
			continue
		}
		for _, r := range o.Tables[0].Rules {
			if r.Name != "k" {
				base := api.Objects{Schemas: o.Schemas, Tables: []api.Table{table("b", "item", market().Tables[item].Columns, key("k", "id"))}}
				refused(t, base, addRule("b", "item", r), api.ErrObjectForm)
			}
		}
	}
}

func TestAddForeignRule(t *testing.T) { // P7.6: the key that it names
	o := market()
	for _, c := range []struct {
		r    api.Rule
		code api.Errno
	}{
		{foreign("new", "e", "item", "one", "much"), api.ErrObjectNone},
		{foreign("new", "f", "item", "one", "much"), api.ErrObjectNone},
		{foreign("new", "d", "item", "one", "much"), api.ErrObjectNone},
		{foreign("new", "b", "items", "one", "much"), api.ErrObjectNone},
		{foreign("new", "b", "stock", "one", "much"), api.ErrObjectNone},
		{foreign("new", "b", "item", "three", "much"), api.ErrObjectNone},
		{foreign("new", "b", "item", "new", "much"), api.ErrObjectNone},
		{foreign("new", "b", "stock", "new", "much"), api.ErrObjectNone},             // itself
		{foreign("new", "b", "item", "a_cost", "much"), api.ErrObjectNone},           // an index
		{foreign("new", "b", "item", "cheap", "much"), api.ErrObjectNone},            // a check
		{foreign("new", "b", "item", "of", "much"), api.ErrObjectNone},               // a foreign rule
		{foreign("new", "b", "item", "a_cost", "what", "much"), api.ErrObjectNone},   // an index of other kinds
		{foreign("new", "b", "item", "one", "what"), api.ErrObjectForm},              // another kind
		{foreign("new", "b", "item", "one", "much", "what"), api.ErrObjectForm},      // more columns
		{foreign("new", "b", "item", "two", "much"), api.ErrObjectForm},              // fewer columns
		{foreign("new", "b", "item", "two", "what", "much"), api.ErrObjectForm},      // another order
		{foreign("new", "b", "item", "two", "what"), api.ErrObjectForm},              // fewer, and another kind
		{foreign("new", "d", "day", "no", "what"), api.ErrObjectForm},                // another schema's
		{foreign("new", "d", "day", "no", "what", "much"), api.ErrObjectForm},        // more, and another kind
		{foreign("new", "b", "item", "one", "much", "what", "x"), api.ErrObjectForm}, // it does not fit its own columns
	} {
		refused(t, o, addRule("b", "stock", c.r), c.code)
	}
	pair := api.Objects{Schemas: schemas("s"), Tables: []api.Table{table("s", "t", columns(3), key("k", "a", "b")), table("s", "u", columns(3))}}
	for _, at := range []string{"t", "u"} { // the same, to a key of its own table and of another one
		refused(t, pair, addRule("s", at, foreign("f", "s", "t", "k", "a")), api.ErrObjectForm)
		refused(t, pair, addRule("s", at, foreign("f", "s", "t", "k", "a", "b", "c")), api.ErrObjectForm)
		refused(t, pair, addRule("s", at, foreign("f", "s", "u", "k", "a", "b")), api.ErrObjectNone)
		for i := range pair.Tables {
			if pair.Tables[i].Name == at {
				f := foreign("f", "s", "t", "k", "c", "a")
				gives(t, pair, addRule("s", at, f), with(pair, func(o *api.Objects) { o.Tables[i].Rules = slices.Insert(o.Tables[i].Rules, 0, f) }))
			}
		}
	}
}

func TestDropRule(t *testing.T) { // P7.6
	o := market()
	for _, at := range [][3]string{{"b", "none", "one"}, {"none", "item", "one"}, {"d", "item", "one"}, {"f", "day", "no"}, {"b", "item", "none"}, {"b", "item", ""}, {"b", "item", "id"}, {"b", "item", "no"}, {"b", "stock", "one"}, {"", "", ""}} {
		refused(t, o, dropRule(at[0], at[1], at[2]), api.ErrObjectNone)
		refused(t, api.Objects{}, dropRule(at[0], at[1], at[2]), api.ErrObjectNone)
	}
	refused(t, o, dropRule("b", "item", "one"), api.ErrObjectUsed)
	refused(t, o, dropRule("b", "item", "two"), api.ErrObjectUsed)
	refused(t, o, dropRule("d", "day", "no"), api.ErrObjectUsed)
	for i, at := range o.Tables {
		for j, r := range at.Rules {
			if r.Kind != api.RuleKey {
				gives(t, o, dropRule(at.Schema, at.Name, r.Name), with(o, func(o *api.Objects) { o.Tables[i].Rules = slices.Delete(o.Tables[i].Rules, j, j+1) }))
			}
		}
	}
	gives(t, example(), dropRule("s", "t", "k"), with(example(), func(o *api.Objects) { o.Tables[0].Rules = nil }))
}

func TestDropRuleOfAKey(t *testing.T) { // P7.6: what names it is of its own table, of another one, of another schema; or names its like
	k := key("k", "a")
	f := foreign("f", "s", "t", "k", "a")
	for _, used := range []api.Objects{
		{Tables: []api.Table{table("s", "t", columns(1), f, k)}},
		{Tables: []api.Table{table("s", "a", columns(1), f), table("s", "t", columns(1), k)}},
		{Tables: []api.Table{table("s", "t", columns(1), k), table("s", "u", columns(1), f)}},
		{Tables: []api.Table{table("r", "t", columns(1), f, k), table("s", "t", columns(1), k)}},
		{Tables: []api.Table{table("s", "t", columns(1), k), table("u", "t", columns(1), index("a", "a"), f)}},
	} {
		used.Schemas = schemas("r", "s", "u")
		refused(t, used, dropRule("s", "t", "k"), api.ErrObjectUsed)
	}
	o := api.Objects{Schemas: schemas("r", "s"), Tables: []api.Table{
		table("r", "t", columns(1), k),                                // alike, in another schema
		table("s", "s", columns(1), key("j", "a"), k),                 // alike, in another table; another key beside it
		table("s", "t", columns(1), f, key("j", "a"), k),              // the one that is named; another key beside it
		table("s", "u", columns(1), foreign("k", "s", "t", "k", "a")), // a foreign rule of the key's name
	}}
	refused(t, o, dropRule("s", "t", "k"), api.ErrObjectUsed)
	for _, at := range []struct {
		i, j                int
		schema, table, name string
	}{{0, 0, "r", "t", "k"}, {1, 1, "s", "s", "k"}, {1, 0, "s", "s", "j"}, {2, 1, "s", "t", "j"}, {2, 0, "s", "t", "f"}, {3, 0, "s", "u", "k"}} {
		gives(t, o, dropRule(at.schema, at.table, at.name), with(o, func(o *api.Objects) { o.Tables[at.i].Rules = slices.Delete(o.Tables[at.i].Rules, at.j, at.j+1) }))
	}
}

func TestArgumentsStay(t *testing.T) { // R2: a table and a rule that are handed in are not written into and not kept
	o := cloned(market())
	added := cloned(table("b", "new", columns(3)))
	wasAdded := cloned(added)
	out, code := objects.AddTable(o, added)
	if code != api.OK || !untouched(added, wasAdded) {
		t.Errorf("AddTable: %d, %v", code, added)
	}
	apart(t, "AddTable", &o, &added, &out)

	for _, r := range []api.Rule{index("new", "much", "what"), foreign("new", "b", "item", "two", "much", "what")} {
		r = cloned(r)
		wasRule := cloned(r)
		out, code = objects.AddRule(o, "b", "stock", r)
		if code != api.OK || !untouched(r, wasRule) {
			t.Errorf("AddRule: %d, %v", code, r)
		}
		apart(t, "AddRule", &o, &r, &out)
	}

	for _, c := range []api.Objects{o, {}} { // when they are refused neither
		objects.AddTable(c, added)
		r := cloned(index("new", "none", "much", "much"))
		wasRule := cloned(r)
		objects.AddRule(c, "b", "stock", r)
		if !untouched(added, wasAdded) || !untouched(r, wasRule) {
			t.Errorf("what was handed in is changed: %v, %v", added, r)
		}
	}
}

func TestFullIsNewMemory(t *testing.T) { // R2: also of the tables, columns and rules that a call did not touch
	o := with(full(), func(o *api.Objects) {
		o.Tables[0].Rules = o.Tables[0].Rules[:4]
		o.Tables[1].Columns = o.Tables[1].Columns[:7]
		o.Tables[1].Rules = nil
		o.Tables = slices.Delete(o.Tables, 7, 8)
	})
	for _, c := range []struct {
		call   call
		change func(o *api.Objects)
	}{
		{addTable(table("a", "h", columns(2))), func(o *api.Objects) { o.Tables = slices.Insert(o.Tables, 7, table("a", "h", columns(2))) }},
		{dropTable("a", "b"), func(o *api.Objects) { o.Tables = slices.Delete(o.Tables, 1, 2) }},
		{addColumn("a", "b", null(text("new"))), func(o *api.Objects) { o.Tables[1].Columns = append(o.Tables[1].Columns, null(text("new"))) }},
		{dropColumn("a", "a", "f"), func(o *api.Objects) { o.Tables[0].Columns = slices.Delete(o.Tables[0].Columns, 5, 6) }},
		{addRule("a", "b", key("new", "a")), func(o *api.Objects) { o.Tables[1].Rules = []api.Rule{key("new", "a")} }},
		{dropRule("h", "h", "h"), func(o *api.Objects) { o.Tables[62].Rules = o.Tables[62].Rules[:7] }},
		{setOwner("h", "h", "p"), func(o *api.Objects) { o.Tables[62].Owner = "p" }},
	} {
		gives(t, o, c.call, with(o, c.change))
	}
}

func TestAddedAndDropped(t *testing.T) { // P7.7: at once, it is as if it had not been
	for _, o := range []api.Objects{market(), cloned(market()), {Schemas: schemas("b", "d"), Tables: []api.Table{table("b", "stock", []api.Column{text("what"), whole("much")})}}} {
		for _, pair := range [][2]call{
			{addSchema("a", "p"), dropSchema("a")},
			{addSchema("c", "p"), dropSchema("c")},
			{addSchema("z", "p"), dropSchema("z")},
			{addTable(table("b", "a", columns(3))), dropTable("b", "a")},
			{addTable(table("b", "st", columns(3))), dropTable("b", "st")},
			{addTable(table("d", "z", columns(3))), dropTable("d", "z")},
			{addColumn("b", "stock", null(whole("a"))), dropColumn("b", "stock", "a")},
			{addColumn("b", "stock", null(text("z"))), dropColumn("b", "stock", "z")},
			{addRule("b", "stock", index("a", "much", "what")), dropRule("b", "stock", "a")},
			{addRule("b", "stock", key("m", "what")), dropRule("b", "stock", "m")},
			{addRule("b", "stock", check("z", "much", 0, 9)), dropRule("b", "stock", "z")},
		} {
			out, code := pair[0].do(o)
			if code != api.OK || same(out, o) {
				t.Errorf("%s: %d, %v", pair[0].name, code, out)
			}
			gives(t, out, pair[1], o)
		}
	}
	o := market()
	out, _ := objects.AddRule(o, "b", "stock", foreign("f", "d", "day", "no", "much"))
	gives(t, out, dropRule("b", "stock", "f"), o)
	out, _ = objects.AddSchema(api.Objects{}, "s", "o")
	out, _ = objects.DropSchema(out, "s")
	if !reflect.DeepEqual(out, api.Objects{}) {
		t.Errorf("of none: %v", out)
	}
}
