package objects_test

import (
	"math/rand"
	"testing"

	"folkmoot/api"
	"folkmoot/objects"
)

// drawer draws arguments out of few, so that they often meet.
type drawer struct{ *rand.Rand }

func (d drawer) one(of ...string) string { return of[d.Intn(len(of))] }

func (d drawer) name() string {
	if d.Intn(40) == 0 {
		return d.one("", "A", tooLong)
	}
	return d.one(upTo(10)...)
}

// names answers the names of a schema and a table: most often of one that is there.
func (d drawer) names(o api.Objects) (string, string) {
	if len(o.Tables) > 0 && d.Intn(6) > 0 {
		at := o.Tables[d.Intn(len(o.Tables))]
		return at.Schema, at.Name
	}
	return d.name(), d.name()
}

func (d drawer) column() api.Column {
	return api.Column{Name: d.name(), Kind: api.ValueKind(2 + d.Intn(9)/4), Null: d.Intn(4) > 0}
}

func (d drawer) table() api.Table {
	t := table(d.name(), d.name(), nil)
	for range d.Intn(6) {
		t.Columns = append(t.Columns, d.column())
	}
	if d.Intn(20) == 0 {
		t.Rules = indexes(1, "a")
	}
	return t
}

// rule answers one for that table: most often it fits.
func (d drawer) rule(o api.Objects, schema, table string) api.Rule {
	r := api.Rule{Name: d.name(), Kind: api.RuleKind(1 + d.Intn(17)/4)}
	at, _ := objects.Find(o, schema, table)
	for _, i := range d.Perm(len(at.Columns))[:min(len(at.Columns), 1+d.Intn(2))] {
		r.Columns = append(r.Columns, at.Columns[i].Name)
	}
	if d.Intn(10) == 0 {
		r.Columns = append(r.Columns, d.name())
	}
	switch r.Kind {
	case api.RuleCheck:
		r.Low, r.High = d.Intn(5), 2+d.Intn(5)
	case api.RuleForeign:
		r.Schema, r.Table = d.names(o)
		r.Key = d.name()
		named, _ := objects.Find(o, r.Schema, r.Table)
		for _, k := range named.Rules {
			if d.Intn(2) == 0 {
				r.Key = k.Name
			}
		}
	}
	return r
}

func (d drawer) call(o api.Objects) call {
	schema, name := d.names(o)
	within := []string{d.name()} // what may be dropped of the table
	at, _ := objects.Find(o, schema, name)
	for _, c := range at.Columns {
		within = append(within, c.Name)
	}
	for _, r := range at.Rules {
		within = append(within, r.Name)
	}
	switch d.Intn(16) {
	case 0, 1:
		return addSchema(d.name(), d.name())
	case 2:
		return dropSchema(d.name())
	case 3, 4, 5:
		return addTable(d.table())
	case 6:
		return dropTable(schema, name)
	case 7, 8:
		return addColumn(schema, name, d.column())
	case 9:
		return dropColumn(schema, name, d.one(within...))
	case 10:
		return dropRule(schema, name, d.one(within...))
	case 11:
		return setOwner(schema, name, d.name())
	}
	return addRule(schema, name, d.rule(o, schema, name))
}

func TestWalk(t *testing.T) { // P7.7, R1, R2: what comes out of each call, one behind the other, is right; what is refused changes nothing
	seen := map[api.Errno]int{}
	for seed := range 30 {
		d := drawer{rand.New(rand.NewSource(int64(seed)))}
		o := api.Objects{}
		for range 400 {
			c := d.call(o)
			o = cloned(o)
			was := cloned(o)
			out, code := c.do(o)
			again, codeAgain := c.do(o)
			seen[code]++
			if codeAgain != code || !same(out, again) {
				t.Fatalf("seed %d: %s: %v, %d; then %v, %d", seed, c.name, out, code, again, codeAgain)
			}
			if !untouched(o, was) {
				t.Fatalf("seed %d: %s changed what was handed in", seed, c.name)
			}
			apart(t, c.name, &o, &out, &again)
			if code != api.OK {
				if !same(out, api.Objects{}) {
					t.Fatalf("seed %d: %s: %v beside %d", seed, c.name, out, code)
				}
				continue
			}
			if code := objects.Check(out); code != api.OK {
				t.Fatalf("seed %d: %s: what comes out is not right: %v", seed, c.name, out)
			}
			o = out
		}
		if t.Failed() {
			t.Fatalf("seed %d", seed)
		}
	}
	for _, code := range []api.Errno{api.OK, api.ErrArg, api.ErrLimit, api.ErrObjectThere, api.ErrObjectNone, api.ErrObjectUsed, api.ErrObjectForm} {
		if seen[code] == 0 {
			t.Errorf("%d never came", code)
		}
	}
	if len(seen) != 7 {
		t.Errorf("other errors came: %v", seen)
	}
}
