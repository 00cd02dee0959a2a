package wire_test

import (
	"bytes"
	"encoding/hex"
	"math"
	"reflect"
	"strconv"
	"strings"
	"testing"

	"folkmoot/api"
	"folkmoot/wire"
)

// sort is one of the five sorts of things, its calls with the thing as any.
type sort struct {
	name string
	full func() any // a thing in which every field is another one
	hex  string     // and its bytes
	zero int        // how many bytes a thing of noughts has, all of them 0
	put  func(x any) ([]byte, api.Errno)
	get  func(b []byte) (any, api.Errno)
}

func puts[T any](put func(T) ([]byte, api.Errno)) func(any) ([]byte, api.Errno) {
	return func(x any) ([]byte, api.Errno) { return put(x.(T)) }
}

func gets[T any](get func([]byte) (T, api.Errno)) func([]byte) (any, api.Errno) {
	return func(b []byte) (any, api.Errno) { return get(b) }
}

var sorts = []sort{
	{"command", func() any { return command() }, commandHex, 73, puts(wire.PutCommand), gets(wire.GetCommand)},
	{"catalog", func() any { return catalog() }, catalogHex, 28, puts(wire.PutCatalog), gets(wire.GetCatalog)},
	{"record", func() any { return record() }, recordHex, 60, puts(wire.PutRecord), gets(wire.GetRecord)},
	{"op", func() any { return op() }, opHex, 97, puts(wire.PutOp), gets(wire.GetOp)},
	{"machine", func() any { return machine() }, machineHex, 40, puts(wire.PutMachine), gets(wire.GetMachine)},
}

func command() api.Command {
	return api.Command{
		Kind: 0x11, Actor: "a", Schema: "bc", Table: "d", Name: "e", Role: "f",
		Columns: []api.Column{{Name: "g", Kind: 0x12, Null: true}, {Name: "h", Kind: 0x13}},
		Rule: api.Rule{
			Name: "i", Kind: 0x14, Columns: []string{"j", "kl"}, Low: -2, High: 0x0102030405060708,
			Schema: "m", Table: "n", Key: "o",
		},
		Right: 0x15, Option: true,
	}
}

const commandHex = `
	11000000              Kind
	01000000 61           Actor
	02000000 6263         Schema
	01000000 64           Table
	01000000 65           Name
	01000000 66           Role
	02000000              Columns
	01000000 67           Name
	12000000              Kind
	01                    Null
	01000000 68           Name
	13000000              Kind
	00                    Null
	01000000 69           Rule: Name
	14000000              Kind
	02000000              Columns
	01000000 6a
	02000000 6b6c
	feffffffffffffff      Low
	0807060504030201      High
	01000000 6d           Schema
	01000000 6e           Table
	01000000 6f           Key
	15000000              Right
	01                    Option
`

func catalog() api.Catalog {
	return api.Catalog{
		Epoch: 0x3b9aca00, Version: 0x0102,
		Objects: api.Objects{
			Schemas: []api.Schema{{Name: "A", Owner: "B"}, {Name: "C", Owner: "D"}},
			Tables: []api.Table{
				{
					Schema: "E", Name: "F", Owner: "G",
					Columns: []api.Column{{Name: "H", Kind: 0x21, Null: true}},
					Rules:   []api.Rule{{Name: "I", Kind: 0x22, Columns: []string{"J"}, Low: 0x23, High: -1, Schema: "K", Table: "L", Key: "M"}},
				},
				{Schema: "N", Name: "O", Owner: "P"},
			},
		},
		Roles: api.Roles{
			Names:   []string{"Q", "RS", ""},
			Members: []api.Member{{Role: "T", Of: "U"}, {Role: "V", Of: "W"}},
		},
		Grants: []api.Grant{
			{Schema: "X", Table: "Y", Right: 0x24, By: "Z", To: "0", Option: true},
			{Schema: "1", Table: "2", Right: 0x25, By: "3", To: "4"},
		},
	}
}

const catalogHex = `
	00ca9a3b              Epoch
	02010000              Version
	02000000              Schemas
	01000000 41           Name
	01000000 42           Owner
	01000000 43           Name
	01000000 44           Owner
	02000000              Tables
	01000000 45           Schema
	01000000 46           Name
	01000000 47           Owner
	01000000              Columns
	01000000 48           Name
	21000000              Kind
	01                    Null
	01000000              Rules
	01000000 49           Name
	22000000              Kind
	01000000              Columns
	01000000 4a
	2300000000000000      Low
	ffffffffffffffff      High
	01000000 4b           Schema
	01000000 4c           Table
	01000000 4d           Key
	01000000 4e           Schema
	01000000 4f           Name
	01000000 50           Owner
	00000000              Columns
	00000000              Rules
	03000000              Names
	01000000 51
	02000000 5253
	00000000
	02000000              Members
	01000000 54           Role
	01000000 55           Of
	01000000 56           Role
	01000000 57           Of
	02000000              Grants
	01000000 58           Schema
	01000000 59           Table
	24000000              Right
	01000000 5a           By
	01000000 30           To
	01                    Option
	01000000 31           Schema
	01000000 32           Table
	25000000              Right
	01000000 33           By
	01000000 34           To
	00                    Option
`

func record() api.Record {
	return api.Record{
		Kind: 0x31, Term: 0x32, Vote: 0x33,
		Entry: api.Entry{
			Index: 0x34, Term: 0x35, Kind: 0x36,
			Config: api.Config{Voters: api.Set{0x37, 0x38}, Learners: api.Set{0x39}},
			Data:   "\x00\xff",
		},
		Index: 0x3a,
		Snap: api.Snapshot{
			Index: 0x3b, Term: 0x3c,
			Config: api.Config{Voters: api.Set{0x3d}, Learners: api.Set{0x3f, 0x3e}},
			Data:   "data",
		},
	}
}

const recordHex = `
	31000000              Kind
	32000000              Term
	33000000              Vote
	34000000              Entry: Index
	35000000              Term
	36000000              Kind
	02000000              Voters
	37000000
	38000000
	01000000              Learners
	39000000
	02000000 00ff         Data
	3a000000              Index
	3b000000              Snap: Index
	3c000000              Term
	01000000              Voters
	3d000000
	02000000              Learners
	3f000000
	3e000000
	04000000 64617461     Data
`

func op() api.Op {
	return api.Op{
		Kind: 0x41, Client: 0x42, Number: 0x43,
		Command: command(),
		Node:    0x44, Ask: 0x45, Seq: 0x46,
	}
}

const opHex = `
	41000000              Kind
	42000000              Client
	43000000              Number
` + commandHex + `
	44000000              Node
	45000000              Ask
	46000000              Seq
`

func machine() api.Machine {
	return api.Machine{
		Catalog: catalog(),
		Done: []api.Done{
			{Client: 0x51, Number: 0x52, Code: 0x53, Fence: 0x54, Version: 0x55},
			{Client: 0x56, Number: 0x57, Code: 0x58, Fence: 0x59, Version: 0x5a},
		},
		Leases: []api.Lease{
			{Seq: 0x5b, Node: 0x5c, Ask: 0x5d, Epoch: 0x5e},
			{Seq: 0x5f, Node: 0x60, Ask: 0x61, Epoch: 0x62},
		},
		Last: 0x63,
	}
}

const machineHex = catalogHex + `
	02000000              Done
	51000000              Client
	52000000              Number
	53000000              Code
	54000000              Fence
	55000000              Version
	56000000              Client
	57000000              Number
	58000000              Code
	59000000              Fence
	5a000000              Version
	02000000              Leases
	5b000000              Seq
	5c000000              Node
	5d000000              Ask
	5e000000              Epoch
	5f000000              Seq
	60000000              Node
	61000000              Ask
	62000000              Epoch
	63000000              Last
`

// unhex answers the bytes of lines like those above: in each, groups of hexadecimal digits, and then perhaps what they are.
func unhex(t *testing.T, lines string) []byte {
	t.Helper()
	var out []byte
	for _, line := range strings.Split(lines, "\n") {
		digits, _, _ := strings.Cut(strings.TrimSpace(line), "  ")
		b, err := hex.DecodeString(strings.ReplaceAll(digits, " ", ""))
		if err != nil {
			t.Fatalf("%q: %v", line, err)
		}
		out = append(out, b...)
	}
	return out
}

// field is one of a thing: where it stands in it, its letter in the chapter's table (L for a list) and where its bytes begin.
type field struct {
	v    reflect.Value
	sort byte
	at   int
}

// lay makes a thing's bytes by the words of the chapter, without package wire, and tells its fields in their order: api's structs have them in that of the table.
func lay(v reflect.Value, name string, b []byte, fields []field) ([]byte, []field) {
	at := len(b)
	switch v.Kind() {
	case reflect.Struct:
		for i := range v.NumField() {
			b, fields = lay(v.Field(i), v.Type().Field(i).Name, b, fields)
		}
		return b, fields
	case reflect.Slice:
		b = little(b, uint64(v.Len()), 4)
		fields = append(fields, field{v, 'L', at})
		for i := range v.Len() {
			b, fields = lay(v.Index(i), "", b, fields)
		}
		return b, fields
	case reflect.String:
		return append(little(b, uint64(v.Len()), 4), v.String()...), append(fields, field{v, 'S', at})
	case reflect.Bool:
		if v.Bool() {
			return append(b, 1), append(fields, field{v, 'B', at})
		}
		return append(b, 0), append(fields, field{v, 'B', at})
	}
	if name == "Low" || name == "High" {
		return little(b, uint64(v.Int()), 8), append(fields, field{v, 'I', at})
	}
	return little(b, uint64(v.Int()), 4), append(fields, field{v, 'N', at})
}

func little(b []byte, n uint64, size int) []byte {
	for range size {
		b = append(b, byte(n))
		n >>= 8
	}
	return b
}

// open answers a new full thing of a sort, its bytes and its fields, which may be set.
func (s sort) open() (reflect.Value, []byte, []field) {
	x := reflect.ValueOf(s.full())
	v := reflect.New(x.Type()).Elem()
	v.Set(x)
	b, fields := lay(v, "", nil, nil)
	return v, b, fields
}

// each asks for every field of a sort's full thing by itself: x is the thing, f the field in it, b its bytes.
func each(t *testing.T, letters string, do func(t *testing.T, s sort, x reflect.Value, f field, b []byte)) {
	for _, s := range sorts {
		_, _, all := s.open()
		for i := range all {
			if !strings.Contains(letters, string(all[i].sort)) {
				continue
			}
			t.Run(s.name+strconv.Itoa(i), func(t *testing.T) {
				x, b, fields := s.open()
				do(t, s, x, fields[i], b)
			})
		}
	}
}

// laid holds put's answer against the chapter's words, and get's against the thing.
func laid(t *testing.T, s sort, x reflect.Value) {
	t.Helper()
	want, _ := lay(x, "", nil, nil)
	b, code := s.put(x.Interface())
	if code != api.OK || !bytes.Equal(b, want) {
		t.Fatalf("put %s: %d bytes, %d; want %d bytes", s.name, len(b), code, len(want))
	}
	y, code := s.get(b)
	if code != api.OK || !same(y, x.Interface()) {
		t.Fatalf("get %s: %d; another one", s.name, code)
	}
}

func notLaid(t *testing.T, s sort, x reflect.Value, want api.Errno) {
	t.Helper()
	if b, code := s.put(x.Interface()); len(b) != 0 || code != want {
		t.Fatalf("put %s: %d bytes, %d; want %d", s.name, len(b), code, want)
	}
}

func notRead(t *testing.T, s sort, b []byte) {
	t.Helper()
	x, code := s.get(b)
	if code != api.ErrCodecForm || !reflect.ValueOf(x).IsZero() {
		t.Fatalf("get %s of %d bytes: %d, %#v", s.name, len(b), code, x)
	}
}

// same holds two things of a sort against each other; a list without elements may be nil or not.
func same(x, y any) bool {
	a, _ := lay(reflect.ValueOf(x), "", nil, nil)
	b, _ := lay(reflect.ValueOf(y), "", nil, nil)
	return reflect.TypeOf(x) == reflect.TypeOf(y) && bytes.Equal(a, b)
}

func patch(b []byte, at int, n uint64, size int) []byte {
	out := bytes.Clone(b)
	copy(out[at:], little(nil, n, size))
	return out
}

func TestExamples(t *testing.T) { // P3.1, P3.2
	x := api.Op{Kind: 4, Seq: 7}
	want := append(append([]byte{4, 0, 0, 0}, make([]byte, 89)...), 7, 0, 0, 0)
	b, code := wire.PutOp(x)
	if !bytes.Equal(b, want) || code != api.OK {
		t.Errorf("PutOp: %x, %d", b, code)
	}
	if b, code := wire.PutRecord(api.Record{Vote: -1}); len(b) != 0 || code != api.ErrArg {
		t.Errorf("PutRecord: %x, %d", b, code)
	}
	if b, code := wire.PutCommand(api.Command{Actor: strings.Repeat("a", 65537)}); len(b) != 0 || code != api.ErrLimit {
		t.Errorf("PutCommand: %d bytes, %d", len(b), code)
	}
	if y, code := wire.GetOp(b); !same(y, x) || code != api.OK {
		t.Errorf("GetOp: %#v, %d", y, code)
	}
	for _, b := range [][]byte{append(b, 0), nil} {
		if y, code := wire.GetOp(b); !same(y, api.Op{}) || code != api.ErrCodecForm {
			t.Errorf("GetOp(%x): %#v, %d", b, y, code)
		}
	}
}

func TestEachFieldInItsPlace(t *testing.T) { // P3.1, P3.2
	for _, s := range sorts {
		x, want := s.full(), unhex(t, s.hex)
		b, code := s.put(x)
		if !bytes.Equal(b, want) || code != api.OK {
			t.Errorf("put %s: %x, %d; want %x", s.name, b, code, want)
		}
		y, code := s.get(want)
		if !reflect.DeepEqual(y, x) || code != api.OK {
			t.Errorf("get %s: %#v, %d; want %#v", s.name, y, code, x)
		}
		if model, _ := lay(reflect.ValueOf(x), "", nil, nil); !bytes.Equal(model, want) {
			t.Errorf("these tests' own bytes of a %s: %x; want %x", s.name, model, want)
		}
	}
}

func TestThingsOfNoughts(t *testing.T) { // P3.1, P3.2
	for _, s := range sorts {
		none := reflect.Zero(reflect.TypeOf(s.full())).Interface()
		b, code := s.put(none)
		if !bytes.Equal(b, make([]byte, s.zero)) || code != api.OK {
			t.Errorf("put %s: %x, %d", s.name, b, code)
		}
		if x, code := s.get(make([]byte, s.zero)); !same(x, none) || code != api.OK {
			t.Errorf("get %s: %#v, %d", s.name, x, code)
		}
	}
	// A list without elements may be nil or not.
	b, code := wire.PutCommand(api.Command{Columns: []api.Column{}, Rule: api.Rule{Columns: []string{}}})
	if !bytes.Equal(b, make([]byte, 73)) || code != api.OK {
		t.Errorf("PutCommand: %x, %d", b, code)
	}
}

func TestNumbers(t *testing.T) { // P3.1, P3.2
	each(t, "N", func(t *testing.T, s sort, x reflect.Value, f field, b []byte) {
		for _, n := range []int64{0, 1, 255, 256, 65536, 999999999, 1000000000} {
			f.v.SetInt(n)
			laid(t, s, x)
		}
		for _, n := range []int64{-1, 1000000001, 1 << 31, 1<<32 - 1, 1 << 32, 1<<32 + 1, math.MaxInt64, -1 << 32, math.MinInt64} {
			f.v.SetInt(n)
			notLaid(t, s, x, api.ErrArg)
		}
		for _, n := range []uint64{1000000001, 1 << 31, 1<<32 - 1} {
			notRead(t, s, patch(b, f.at, n, 4))
		}
	})
}

func TestWholeNumbers(t *testing.T) { // P3.1, P3.2: whatever they are
	each(t, "I", func(t *testing.T, s sort, x reflect.Value, f field, b []byte) {
		for _, n := range []int64{0, 1, -1, 1000000001, -1000000001, 1 << 32, -1 << 32, math.MaxInt64, math.MinInt64} {
			f.v.SetInt(n)
			laid(t, s, x)
		}
	})
}

func TestTruths(t *testing.T) { // P3.1, P3.2
	each(t, "B", func(t *testing.T, s sort, x reflect.Value, f field, b []byte) {
		for _, yes := range []bool{true, false} {
			f.v.SetBool(yes)
			laid(t, s, x)
		}
		for n := uint64(2); n < 256; n++ {
			notRead(t, s, patch(b, f.at, n, 1))
		}
	})
}

func TestTexts(t *testing.T) { // P3.1, P3.2
	most := strings.Repeat("\x00\xff\xc3z", 16384)
	each(t, "S", func(t *testing.T, s sort, x reflect.Value, f field, b []byte) {
		was := f.v.String()
		for _, text := range []string{"", "\x00", "\xff\xfe", most[:65535], most} {
			f.v.SetString(text)
			laid(t, s, x)
		}
		for _, text := range []string{most + "a", most + most} {
			f.v.SetString(text)
			notLaid(t, s, x, api.ErrLimit)
			b, _ := lay(x, "", nil, nil)
			notRead(t, s, b) // as many bytes as its length says, but too many
		}
		rest := len(b) - f.at - 4 // what stands behind the length
		for _, n := range []int{len(was) + 1, rest + 1, 65536, 65537, 1000000000, 1000000001, 1<<32 - 1} {
			notRead(t, s, patch(b, f.at, uint64(n), 4))
		}
	})
}

func TestLists(t *testing.T) { // P3.1, P3.2
	each(t, "L", func(t *testing.T, s sort, x reflect.Value, f field, b []byte) {
		was := f.v.Len()
		for _, n := range []int{0, 1, 4095, 4096} {
			f.v.Set(reflect.MakeSlice(f.v.Type(), n, n))
			laid(t, s, x)
		}
		for _, n := range []int{4097, 5000} {
			f.v.Set(reflect.MakeSlice(f.v.Type(), n, n))
			notLaid(t, s, x, api.ErrLimit)
			b, _ := lay(x, "", nil, nil)
			notRead(t, s, b) // as many elements as its number says, but too many
		}
		for _, n := range []int{was + 100, 4096, 4097, 1000000000, 1000000001, 1<<32 - 1} {
			notRead(t, s, patch(b, f.at, uint64(n), 4)) // more than stands there
		}
	})
}

func TestLastElements(t *testing.T) { // P3.1, P3.2: what stands in the last one's place that there may be
	each(t, "L", func(t *testing.T, s sort, x reflect.Value, f field, b []byte) {
		if f.v.Len() == 0 {
			return
		}
		last := f.v.Index(0)
		f.v.Set(reflect.MakeSlice(f.v.Type(), 4096, 4096))
		f.v.Index(4095).Set(last)
		laid(t, s, x)
		first := fieldsOf(f.v.Index(4095))[0]
		spoil(first)
		notLaid(t, s, x, refusal(first))
	})
}

func fieldsOf(v reflect.Value) []field {
	_, fields := lay(v, "", nil, nil)
	return fields
}

// refusal tells the error of a field of a sort that spoil made one that may not be laid.
func refusal(f field) api.Errno {
	if f.sort == 'N' {
		return api.ErrArg
	}
	return api.ErrLimit
}

var long = strings.Repeat("x", 65537)

// spoil makes a field one that may not be laid; whole numbers and truths always may.
func spoil(f field) bool {
	switch f.sort {
	case 'N':
		f.v.SetInt(-1)
	case 'S':
		f.v.SetString(long)
	case 'L': // what was there stays at the front
		more := reflect.MakeSlice(f.v.Type(), 4097, 4097)
		reflect.Copy(more, f.v)
		f.v.Set(more)
	default:
		return false
	}
	return true
}

func TestTheFirstFieldsError(t *testing.T) { // P3.1: of two that may not be laid; a list that is too long ahead of its elements
	for _, s := range sorts {
		_, _, all := s.open()
		for j := range all {
			for i := range j {
				x, _, fields := s.open()
				if spoil(fields[j]) && spoil(fields[i]) {
					notLaid(t, s, x, refusal(fields[i]))
				}
			}
		}
	}
}

func TestTooLongAheadOfItsElements(t *testing.T) { // P3.1
	bad := make(api.Set, 4097)
	for i := range bad {
		bad[i] = -1
	}
	for _, c := range []struct {
		name string
		x    api.Record
		code api.Errno
	}{
		{"4097 of -1", api.Record{Entry: api.Entry{Config: api.Config{Voters: bad}}}, api.ErrLimit},
		{"4096 of -1", api.Record{Entry: api.Entry{Config: api.Config{Voters: bad[:4096]}}}, api.ErrArg},
		{"4096 of -1, then a list too long", api.Record{Entry: api.Entry{Config: api.Config{Voters: bad[:4096], Learners: bad}}}, api.ErrArg},
		{"a list too long, then 4096 of -1", api.Record{Entry: api.Entry{Config: api.Config{Voters: bad, Learners: bad[:4096]}}}, api.ErrLimit},
		{"a vote of -1, then a list too long", api.Record{Vote: -1, Entry: api.Entry{Config: api.Config{Voters: bad}}}, api.ErrArg},
		{"a list too long, then a number of -1", api.Record{Index: -1, Entry: api.Entry{Config: api.Config{Voters: bad}}}, api.ErrLimit},
	} {
		if b, code := wire.PutRecord(c.x); len(b) != 0 || code != c.code {
			t.Errorf("PutRecord(%s): %d bytes, %d; want %d", c.name, len(b), code, c.code)
		}
	}
}

func TestTheFirstFieldsErrorByHand(t *testing.T) { // P3.1
	column := func(name string, kind api.ValueKind) []api.Column { return []api.Column{{Name: name, Kind: kind}} }
	for _, c := range []struct {
		name string
		x    api.Command
		code api.Errno
	}{
		{"Kind, Actor", api.Command{Kind: -1, Actor: long}, api.ErrArg},
		{"Role, Right", api.Command{Role: long, Right: -1}, api.ErrLimit},
		{"a column's Name, its Kind", api.Command{Columns: column(long, -1)}, api.ErrLimit},
		{"a column's Kind, the rule's Name", api.Command{Columns: column("a", -1), Rule: api.Rule{Name: long}}, api.ErrArg},
		{"the rule's Key, Right", api.Command{Rule: api.Rule{Key: long}, Right: -1}, api.ErrLimit},
		{"the first column's Kind, the second one's Name", api.Command{Columns: append(column("a", 1000000001), column(long, 0)...)}, api.ErrArg},
		{"the first column's Name, the second one's Kind", api.Command{Columns: append(column(long, 0), column("a", 1000000001)...)}, api.ErrLimit},
	} {
		if b, code := wire.PutCommand(c.x); len(b) != 0 || code != c.code {
			t.Errorf("PutCommand(%s): %d bytes, %d; want %d", c.name, len(b), code, c.code)
		}
		if b, code := wire.PutOp(api.Op{Command: c.x}); len(b) != 0 || code != c.code {
			t.Errorf("PutOp(%s): %d bytes, %d; want %d", c.name, len(b), code, c.code)
		}
	}
}

func TestOneMoreOrFewer(t *testing.T) { // P3.2
	for _, s := range sorts {
		whole := unhex(t, s.hex)
		for _, b := range [][]byte{whole, make([]byte, s.zero)} {
			for n := range len(b) { // none, and without the last one, among them: nothing is another one's beginning
				notRead(t, s, b[:n:n])
				notRead(t, s, b[:n]) // and the rest in the spare room
			}
			for _, tail := range []string{"\x00", "\x01", "\xff", "\x00\x00\x00\x00", string(b)} {
				notRead(t, s, append(bytes.Clone(b), tail...))
			}
			notRead(t, s, append([]byte{0}, b...))
		}
		notRead(t, s, nil)
		notRead(t, s, []byte{})
		notRead(t, s, bytes.Repeat([]byte{0xff}, len(whole)))
	}
}

func TestAnothersBytes(t *testing.T) { // P3.2: of another sort
	for _, s := range sorts {
		for _, o := range sorts {
			if s.name != o.name {
				notRead(t, s, unhex(t, o.hex))
				notRead(t, s, make([]byte, o.zero))
			}
		}
	}
}

// TestMoreThanStandsThere asks that a list's number alone costs no memory: refused bytes may say anything.
func TestMoreThanStandsThere(t *testing.T) { // P3.2
	b := patch(make([]byte, 28), 12, 4096, 4) // a catalog's tables: none of them is there
	notRead(t, sorts[1], b)
	if n := testing.AllocsPerRun(10, func() { wire.GetCatalog(b) }); n > 200 {
		t.Errorf("GetCatalog: %v pieces of memory", n)
	}
}

func TestManyOfAll(t *testing.T) { // P3.1 to P3.3: a great machine is laid and read in one go
	x := machine()
	for i := range 500 {
		x.Catalog.Grants = append(x.Catalog.Grants, api.Grant{Schema: strings.Repeat("g", i), Right: api.Right(i)})
		x.Catalog.Roles.Names = append(x.Catalog.Roles.Names, strings.Repeat("n", 500-i))
		x.Catalog.Objects.Tables = append(x.Catalog.Objects.Tables, catalog().Objects.Tables[0])
		x.Leases = append(x.Leases, api.Lease{Seq: i})
	}
	laid(t, sorts[4], reflect.ValueOf(x))
}

// again lays what was read of b and holds it against b: T7, any bytes are just one thing, or refused.
func again(t *testing.T, b []byte) {
	t.Helper()
	for _, s := range sorts {
		x, code := s.get(b)
		if code != api.OK {
			notRead(t, s, b)
			continue
		}
		if y, code := s.put(x); code != api.OK || !bytes.Equal(y, b) {
			t.Fatalf("%s: %x is read, laid again it is %x, %d", s.name, b, y, code)
		}
	}
}

func TestAgain(t *testing.T) { // P3.3: with each byte of a thing another one
	for _, s := range sorts {
		b := unhex(t, s.hex)
		again(t, b)
		for i := range b {
			for _, n := range []byte{0, 1, 2, 3, 0x3b, 0x7f, 0x80, 0xff, b[i] + 1, b[i] - 1} {
				again(t, patch(b, i, uint64(n), 1))
			}
			again(t, append(bytes.Clone(b[:i]), b[i+1:]...))
		}
	}
}

func FuzzReadIsLaid(f *testing.F) { // P3.3
	for _, s := range sorts {
		f.Add(make([]byte, s.zero))
		b, _ := s.put(s.full())
		f.Add(b)
		f.Add(b[:len(b)-1])
	}
	f.Fuzz(again)
}

// fill is what stands in the spare room of the bytes that are handed in.
var fill = strings.Repeat("\x01\x00\x00\x00", 8)

func TestGivenBytesAreNotWrittenNorKept(t *testing.T) { // R2
	for _, s := range sorts {
		for _, given := range [][]byte{unhex(t, s.hex), make([]byte, s.zero), []byte("abc"), nil} {
			b := append(bytes.Clone(given), fill...)[:len(given)]
			x, code := s.get(b)
			if !bytes.Equal(b[:len(b)+len(fill)], append(bytes.Clone(given), fill...)) {
				t.Errorf("get %s wrote into what was given: %x", s.name, b[:cap(b)])
			}
			was, _ := s.get(given)
			for i := range b[:cap(b)] {
				b[:cap(b)][i] ^= 0xff
			}
			if !same(x, was) {
				t.Errorf("get %s keeps what was given: %d, %#v", s.name, code, x)
			}
		}
	}
}

// roomy gives each list of a thing spare room, in which stands what lists themselves have in front, and answers all of it.
func roomy(v reflect.Value) []reflect.Value {
	var all []reflect.Value
	switch v.Kind() {
	case reflect.Struct:
		for i := range v.NumField() {
			all = append(all, roomy(v.Field(i))...)
		}
	case reflect.Slice:
		for i := range v.Len() {
			all = append(all, roomy(v.Index(i))...)
		}
		n := v.Len()
		v.Set(reflect.AppendSlice(reflect.AppendSlice(reflect.MakeSlice(v.Type(), 0, 2*n), v), v).Slice(0, n))
		all = append(all, v.Slice(0, 2*n))
	}
	return all
}

func TestGivenThingIsNotWritten(t *testing.T) { // R2
	for _, s := range sorts {
		x, want, _ := s.open()
		lists := roomy(x)
		var was [][]byte
		for _, l := range lists {
			b, _ := lay(l, "", nil, nil)
			was = append(was, b)
		}
		b, code := s.put(x.Interface())
		if !bytes.Equal(b, want) || code != api.OK {
			t.Errorf("put %s: %x, %d", s.name, b, code)
		}
		clear(b[:cap(b)])
		for i, l := range lists {
			if b, _ := lay(l, "", nil, nil); !bytes.Equal(b, was[i]) {
				t.Errorf("put %s wrote into a list: %#v", s.name, l)
			}
		}
		if b, _ := s.put(x.Interface()); !bytes.Equal(b, want) {
			t.Errorf("put %s: two answers share memory: %x", s.name, b)
		}
	}
}

// span is where a list's memory lies, its spare room included.
type span struct{ from, to uintptr }

func spans(x any) []span {
	var all []span
	for _, f := range fieldsOf(reflect.ValueOf(x)) {
		if f.sort == 'L' && f.v.Cap() > 0 {
			from := f.v.Pointer()
			all = append(all, span{from, from + uintptr(f.v.Cap())*f.v.Type().Elem().Size()})
		}
	}
	return all
}

func TestListsShareNoMemory(t *testing.T) { // R2: neither those of one answer nor those of two
	for _, s := range sorts {
		x, _ := s.get(unhex(t, s.hex))
		y, _ := s.get(unhex(t, s.hex))
		all := append(spans(x), spans(y)...)
		if len(all) == 0 {
			t.Errorf("a full %s without lists", s.name)
		}
		for i, a := range all {
			for _, b := range all[:i] {
				if a.from < b.to && b.from < a.to {
					t.Errorf("get %s: two lists share memory", s.name)
				}
			}
		}
	}
}

func TestOneCallKnowsNothingOfAnother(t *testing.T) { // R2: nor does one that was refused leave anything behind
	for _, s := range sorts {
		want := unhex(t, s.hex)
		for _, o := range sorts {
			x, _, fields := o.open()
			spoil(fields[len(fields)-1])
			o.put(x.Interface())
			o.get(want[:len(want)-1])
			if b, code := s.put(s.full()); !bytes.Equal(b, want) || code != api.OK {
				t.Errorf("put %s behind a refused %s: %x, %d", s.name, o.name, b, code)
			}
			if x, code := s.get(want); !same(x, s.full()) || code != api.OK {
				t.Errorf("get %s behind a refused %s: %#v, %d", s.name, o.name, x, code)
			}
		}
	}
}
