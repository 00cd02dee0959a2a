package objects

import (
	"slices"

	"folkmoot/api"
	"folkmoot/lists"
	"folkmoot/names"
)

// Name is P7.1.
func Name(s string) bool { return names.Is(s) }

// Check is P7.1.
func Check(o api.Objects) api.Errno {
	// The keys come last: they are looked for in tables that are right by themselves, and so are few.
	if !schemasRight(o.Schemas) || !tablesRight(o) || !keysThere(o) {
		return api.ErrObjectForm
	}
	return api.OK
}

func schemasRight(schemas []api.Schema) bool {
	if len(schemas) > api.MaxSchemas {
		return false
	}
	for _, s := range schemas {
		if !Name(s.Name) || !Name(s.Owner) {
			return false
		}
	}
	return lists.Rise(schemas, schemaOrder)
}

func tablesRight(o api.Objects) bool {
	for _, t := range o.Tables {
		if schemaPlace(o.Schemas, t.Schema) == none || !tableRight(t) {
			return false
		}
	}
	for _, s := range o.Schemas {
		if countTables(o, s.Name) > api.MaxTables {
			return false
		}
	}
	return lists.Rise(o.Tables, tableOrder)
}

// tableRight answers whether a table is right as far as it can be told without the others.
func tableRight(t api.Table) bool {
	if !Name(t.Name) || !Name(t.Owner) || !columnsMayBe(t.Columns) || len(t.Rules) > api.MaxRules {
		return false
	}
	for _, r := range t.Rules {
		if !fits(r, t.Columns) {
			return false
		}
	}
	return lists.Rise(t.Rules, ruleOrder)
}

func columnsMayBe(columns []api.Column) bool {
	if len(columns) == 0 || len(columns) > api.MaxColumns {
		return false
	}
	for i, c := range columns {
		if !columnMayBe(c) || columnPlace(columns[:i], c.Name) != none {
			return false
		}
	}
	return true
}

func columnMayBe(c api.Column) bool {
	return Name(c.Name) && (c.Kind == api.ValueInt || c.Kind == api.ValueText)
}

// fits answers whether a rule fits a table's columns.
func fits(r api.Rule, columns []api.Column) bool {
	kinds := kindsOf(r.Columns, columns)
	if !Name(r.Name) || len(kinds) == 0 {
		return false
	}
	switch r.Kind {
	case api.RuleCheck:
		if len(kinds) > 1 || kinds[0] != api.ValueInt || r.Low > r.High {
			return false
		}
		r.Low, r.High = 0, 0 // but for its bounds, a check has what an index has
		fallthrough
	case api.RuleIndex, api.RuleKey:
		return r.Low == 0 && r.High == 0 && r.Schema == "" && r.Table == "" && r.Key == ""
	case api.RuleForeign:
		return r.Low == 0 && r.High == 0 && Name(r.Schema) && Name(r.Table) && Name(r.Key)
	}
	return false
}

// kindsOf answers the kinds of the columns that are named; none, if one is named twice or is not there.
func kindsOf(wanted []string, columns []api.Column) []api.ValueKind {
	var kinds []api.ValueKind
	for i, name := range wanted {
		at := columnPlace(columns, name)
		if at == none || slices.Contains(wanted[:i], name) {
			return nil
		}
		kinds = append(kinds, columns[at].Kind)
	}
	return kinds
}

func keysThere(o api.Objects) bool {
	for t, r := range foreignRules(o) {
		if checkKey(o, t, r) != api.OK {
			return false
		}
	}
	return true
}

// checkKey answers OK, if t's foreign rule r has its key; ErrObjectNone, if there is none where it says; ErrObjectForm, if that one is of other columns.
func checkKey(o api.Objects, t api.Table, r api.Rule) api.Errno {
	at := tablePlace(o, r.Schema, r.Table)
	if at == none {
		return api.ErrObjectNone
	}
	named := o.Tables[at]
	at = rulePlace(named.Rules, r.Key)
	if at == none || named.Rules[at].Kind != api.RuleKey {
		return api.ErrObjectNone
	}
	if !slices.Equal(kindsOf(r.Columns, t.Columns), kindsOf(named.Rules[at].Columns, named.Columns)) {
		return api.ErrObjectForm
	}
	return api.OK
}
