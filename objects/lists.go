package objects

import (
	"cmp"
	"iter"
	"slices"

	"folkmoot/api"
	"folkmoot/lists"
)

// none is the place of what is not there.
const none = -1

// tables goes through the tables of a schema, each behind its place among all tables.
func tables(o api.Objects, schema string) iter.Seq2[int, api.Table] {
	return func(yield func(int, api.Table) bool) {
		for i, t := range o.Tables {
			if t.Schema == schema && !yield(i, t) {
				return
			}
		}
	}
}

// foreignRules goes through the foreign rules of all tables, each behind its table.
func foreignRules(o api.Objects) iter.Seq2[api.Table, api.Rule] {
	return func(yield func(api.Table, api.Rule) bool) {
		for _, t := range o.Tables {
			for _, r := range t.Rules {
				if r.Kind == api.RuleForeign && !yield(t, r) {
					return
				}
			}
		}
	}
}

func countTables(o api.Objects, schema string) int {
	n := 0
	for range tables(o, schema) {
		n++
	}
	return n
}

func tablePlace(o api.Objects, schema, table string) int {
	for i, t := range tables(o, schema) {
		if t.Name == table {
			return i
		}
	}
	return none
}

func schemaPlace(schemas []api.Schema, name string) int {
	return slices.IndexFunc(schemas, func(s api.Schema) bool { return s.Name == name })
}

func columnPlace(columns []api.Column, name string) int {
	return slices.IndexFunc(columns, func(c api.Column) bool { return c.Name == name })
}

func rulePlace(rules []api.Rule, name string) int {
	return slices.IndexFunc(rules, func(r api.Rule) bool { return r.Name == name })
}

func schemaOrder(a, b api.Schema) int { return cmp.Compare(a.Name, b.Name) }

func tableOrder(a, b api.Table) int {
	return cmp.Or(cmp.Compare(a.Schema, b.Schema), cmp.Compare(a.Name, b.Name))
}

func ruleOrder(a, b api.Rule) int { return cmp.Compare(a.Name, b.Name) }

func copyObjects(o api.Objects) api.Objects {
	o.Schemas, o.Tables = lists.Copy(o.Schemas), lists.Copy(o.Tables)
	for i, t := range o.Tables {
		o.Tables[i] = copyTable(t)
	}
	return o
}

func copyTable(t api.Table) api.Table {
	t.Columns, t.Rules = lists.Copy(t.Columns), lists.Copy(t.Rules)
	for i, r := range t.Rules {
		t.Rules[i] = copyRule(r)
	}
	return t
}

func copyRule(r api.Rule) api.Rule {
	r.Columns = lists.Copy(r.Columns)
	return r
}
