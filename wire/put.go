package wire

import (
	"folkmoot/api"
	"folkmoot/codec"
)

// writer lays fields one behind the other. Its methods panic with the Errno of a field that may not be laid.
type writer struct {
	laid []byte
}

// add lays one piece, which codec made in memory of its own: handed the bytes so far, codec would copy them each time.
func (w *writer) add(piece []byte, code api.Errno) {
	if code != api.OK {
		panic(code)
	}
	w.laid = append(w.laid, piece...)
}

func (w *writer) number(n int) { w.add(codec.PutNumber(nil, n)) }

func (w *writer) whole(n int) { w.add(codec.PutInt(nil, n), api.OK) }

func (w *writer) text(s string) { w.add(codec.PutText(nil, s)) }

func (w *writer) truth(yes bool) {
	var b byte
	if yes {
		b = 1
	}
	w.laid = append(w.laid, b)
}

// putList lays how many of list there are, and these by lay.
func putList[T any](w *writer, list []T, lay func(*writer, T)) {
	if len(list) > api.MaxList {
		panic(api.ErrLimit)
	}
	w.number(len(list))
	for _, x := range list {
		lay(w, x)
	}
}

func (w *writer) column(x api.Column) {
	w.text(x.Name)
	w.number(int(x.Kind))
	w.truth(x.Null)
}

func (w *writer) rule(x api.Rule) {
	w.text(x.Name)
	w.number(int(x.Kind))
	putList(w, x.Columns, (*writer).text)
	w.whole(x.Low)
	w.whole(x.High)
	w.text(x.Schema)
	w.text(x.Table)
	w.text(x.Key)
}

func (w *writer) table(x api.Table) {
	w.text(x.Schema)
	w.text(x.Name)
	w.text(x.Owner)
	putList(w, x.Columns, (*writer).column)
	putList(w, x.Rules, (*writer).rule)
}

func (w *writer) schema(x api.Schema) {
	w.text(x.Name)
	w.text(x.Owner)
}

func (w *writer) member(x api.Member) {
	w.text(x.Role)
	w.text(x.Of)
}

func (w *writer) grant(x api.Grant) {
	w.text(x.Schema)
	w.text(x.Table)
	w.number(int(x.Right))
	w.text(x.By)
	w.text(x.To)
	w.truth(x.Option)
}

func (w *writer) catalog(x api.Catalog) {
	w.number(x.Epoch)
	w.number(x.Version)
	putList(w, x.Objects.Schemas, (*writer).schema)
	putList(w, x.Objects.Tables, (*writer).table)
	putList(w, x.Roles.Names, (*writer).text)
	putList(w, x.Roles.Members, (*writer).member)
	putList(w, x.Grants, (*writer).grant)
}

func (w *writer) command(x api.Command) {
	w.number(int(x.Kind))
	w.text(x.Actor)
	w.text(x.Schema)
	w.text(x.Table)
	w.text(x.Name)
	w.text(x.Role)
	putList(w, x.Columns, (*writer).column)
	w.rule(x.Rule)
	w.number(int(x.Right))
	w.truth(x.Option)
}

func (w *writer) config(x api.Config) {
	putList(w, x.Voters, (*writer).number)
	putList(w, x.Learners, (*writer).number)
}

func (w *writer) entry(x api.Entry) {
	w.number(x.Index)
	w.number(x.Term)
	w.number(int(x.Kind))
	w.config(x.Config)
	w.text(x.Data)
}

func (w *writer) snapshot(x api.Snapshot) {
	w.number(x.Index)
	w.number(x.Term)
	w.config(x.Config)
	w.text(x.Data)
}

func (w *writer) record(x api.Record) {
	w.number(int(x.Kind))
	w.number(x.Term)
	w.number(x.Vote)
	w.entry(x.Entry)
	w.number(x.Index)
	w.snapshot(x.Snap)
}

func (w *writer) op(x api.Op) {
	w.number(int(x.Kind))
	w.number(x.Client)
	w.number(x.Number)
	w.command(x.Command)
	w.number(x.Node)
	w.number(x.Ask)
	w.number(x.Seq)
}

func (w *writer) lease(x api.Lease) {
	w.number(x.Seq)
	w.number(x.Node)
	w.number(x.Ask)
	w.number(x.Epoch)
}

func (w *writer) done(x api.Done) {
	w.number(x.Client)
	w.number(x.Number)
	w.number(int(x.Code))
	w.number(x.Fence)
	w.number(x.Version)
}

func (w *writer) machine(x api.Machine) {
	w.catalog(x.Catalog)
	putList(w, x.Done, (*writer).done)
	putList(w, x.Leases, (*writer).lease)
	w.number(x.Last)
}
