package wire

import (
	"folkmoot/api"
	"folkmoot/codec"
)

const (
	numberBytes = 4
	wholeBytes  = 8
)

// reader takes fields from the front. Its methods panic with ErrCodecForm where no such field stands. Those of the things name their fields in the order of the bytes: Go makes the calls in a literal from left to right.
type reader struct {
	rest []byte // what is not taken yet: the caller's bytes, which are only read
}

func (r *reader) refuse() { panic(api.ErrCodecForm) }

func (r *reader) end() {
	if len(r.rest) > 0 {
		r.refuse()
	}
}

// cut takes the next n bytes. What is made of them is always made anew.
func (r *reader) cut(n int) []byte {
	if len(r.rest) < n {
		r.refuse()
	}
	b := r.rest[:n]
	r.rest = r.rest[n:]
	return b
}

// number, like whole, hands codec its own bytes alone, since codec copies what it is handed.
func (r *reader) number() int {
	n, code := codec.New(r.cut(numberBytes)).Number()
	if code != api.OK {
		r.refuse()
	}
	return n
}

func (r *reader) whole() int {
	n, _ := codec.New(r.cut(wholeBytes)).Int() // not refused: 8 bytes are always one
	return n
}

// count takes a number that says how many of something come, most at the most.
func (r *reader) count(most int) int {
	n := r.number()
	if n > most {
		r.refuse()
	}
	return n
}

func (r *reader) text() string { return string(r.cut(r.count(api.MaxText))) }

func (r *reader) truth() bool {
	b := r.cut(1)[0]
	if b > 1 {
		r.refuse()
	}
	return b == 1
}

// getList takes a list's elements by take. It grows with what it takes, so that a number of elements that do not stand there costs no memory.
func getList[T any](r *reader, take func(*reader) T) []T {
	var list []T
	for range r.count(api.MaxList) {
		list = append(list, take(r))
	}
	return list
}

func (r *reader) column() api.Column {
	return api.Column{
		Name: r.text(),
		Kind: api.ValueKind(r.number()),
		Null: r.truth(),
	}
}

func (r *reader) rule() api.Rule {
	return api.Rule{
		Name:    r.text(),
		Kind:    api.RuleKind(r.number()),
		Columns: getList(r, (*reader).text),
		Low:     r.whole(),
		High:    r.whole(),
		Schema:  r.text(),
		Table:   r.text(),
		Key:     r.text(),
	}
}

func (r *reader) table() api.Table {
	return api.Table{
		Schema:  r.text(),
		Name:    r.text(),
		Owner:   r.text(),
		Columns: getList(r, (*reader).column),
		Rules:   getList(r, (*reader).rule),
	}
}

func (r *reader) schema() api.Schema {
	return api.Schema{
		Name:  r.text(),
		Owner: r.text(),
	}
}

func (r *reader) member() api.Member {
	return api.Member{
		Role: r.text(),
		Of:   r.text(),
	}
}

func (r *reader) grant() api.Grant {
	return api.Grant{
		Schema: r.text(),
		Table:  r.text(),
		Right:  api.Right(r.number()),
		By:     r.text(),
		To:     r.text(),
		Option: r.truth(),
	}
}

func (r *reader) catalog() api.Catalog {
	return api.Catalog{
		Epoch:   r.number(),
		Version: r.number(),
		Objects: api.Objects{
			Schemas: getList(r, (*reader).schema),
			Tables:  getList(r, (*reader).table),
		},
		Roles: api.Roles{
			Names:   getList(r, (*reader).text),
			Members: getList(r, (*reader).member),
		},
		Grants: getList(r, (*reader).grant),
	}
}

func (r *reader) command() api.Command {
	return api.Command{
		Kind:    api.CmdKind(r.number()),
		Actor:   r.text(),
		Schema:  r.text(),
		Table:   r.text(),
		Name:    r.text(),
		Role:    r.text(),
		Columns: getList(r, (*reader).column),
		Rule:    r.rule(),
		Right:   api.Right(r.number()),
		Option:  r.truth(),
	}
}

func (r *reader) config() api.Config {
	return api.Config{
		Voters:   getList(r, (*reader).number),
		Learners: getList(r, (*reader).number),
	}
}

func (r *reader) entry() api.Entry {
	return api.Entry{
		Index:  r.number(),
		Term:   r.number(),
		Kind:   api.EntryKind(r.number()),
		Config: r.config(),
		Data:   r.text(),
	}
}

func (r *reader) snapshot() api.Snapshot {
	return api.Snapshot{
		Index:  r.number(),
		Term:   r.number(),
		Config: r.config(),
		Data:   r.text(),
	}
}

func (r *reader) record() api.Record {
	return api.Record{
		Kind:  api.RecordKind(r.number()),
		Term:  r.number(),
		Vote:  r.number(),
		Entry: r.entry(),
		Index: r.number(),
		Snap:  r.snapshot(),
	}
}

func (r *reader) op() api.Op {
	return api.Op{
		Kind:    api.OpKind(r.number()),
		Client:  r.number(),
		Number:  r.number(),
		Command: r.command(),
		Node:    r.number(),
		Ask:     r.number(),
		Seq:     r.number(),
	}
}

func (r *reader) lease() api.Lease {
	return api.Lease{
		Seq:   r.number(),
		Node:  r.number(),
		Ask:   r.number(),
		Epoch: r.number(),
	}
}

func (r *reader) done() api.Done {
	return api.Done{
		Client:  r.number(),
		Number:  r.number(),
		Code:    api.Errno(r.number()),
		Fence:   r.number(),
		Version: r.number(),
	}
}

func (r *reader) machine() api.Machine {
	return api.Machine{
		Catalog: r.catalog(),
		Done:    getList(r, (*reader).done),
		Leases:  getList(r, (*reader).lease),
		Last:    r.number(),
	}
}
