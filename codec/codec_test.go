package codec_test

import (
	"bytes"
	"math"
	"strings"
	"testing"

	"folkmoot/api"
	"folkmoot/codec"
)

// fill is what stands in the spare room of what is handed in.
var fill = strings.Repeat("\xee", 64)

// roomy answers b with spare room behind it.
func roomy(b string) []byte {
	all := make([]byte, len(b)+len(fill))
	copy(all[copy(all, b):], fill)
	return all[:len(b)]
}

// untouched tells whether b is still what roomy made of was.
func untouched(b []byte, was string) bool {
	return string(b) == was && string(b[len(b):cap(b)]) == fill
}

// number reads one and tells what is left behind it.
func number(t *testing.T, r *codec.Reader, want int, code api.Errno, left int) {
	t.Helper()
	if n, e := r.Number(); n != want || e != code || r.Left() != left {
		t.Errorf("Number: %d, %d, left %d; want %d, %d, left %d", n, e, r.Left(), want, code, left)
	}
}

func whole(t *testing.T, r *codec.Reader, want int, code api.Errno, left int) {
	t.Helper()
	if n, e := r.Int(); n != want || e != code || r.Left() != left {
		t.Errorf("Int: %d, %d, left %d; want %d, %d, left %d", n, e, r.Left(), want, code, left)
	}
}

func text(t *testing.T, r *codec.Reader, want string, code api.Errno, left int) {
	t.Helper()
	if s, e := r.Text(); s != want || e != code || r.Left() != left {
		t.Errorf("Text: %d bytes, %d, left %d; want %d bytes, %d, left %d", len(s), e, r.Left(), len(want), code, left)
	}
}

func TestPutNumber(t *testing.T) { // P1.1
	for _, c := range []struct {
		b    string
		n    int
		want string
	}{
		{"", 0, "\x00\x00\x00\x00"},
		{"", 1, "\x01\x00\x00\x00"},
		{"", 255, "\xff\x00\x00\x00"},
		{"", 258, "\x02\x01\x00\x00"},
		{"", 65536, "\x00\x00\x01\x00"},
		{"", 0x01020304, "\x04\x03\x02\x01"},
		{"", 999999999, "\xff\xc9\x9a\x3b"},
		{"", 1000000000, "\x00\xca\x9a\x3b"},
		{"\x07", 3, "\x07\x03\x00\x00\x00"},
		{"ab\x00\xff", 1000000000, "ab\x00\xff\x00\xca\x9a\x3b"},
	} {
		if b, e := codec.PutNumber([]byte(c.b), c.n); string(b) != c.want || e != api.OK {
			t.Errorf("PutNumber(%x, %d): %x, %d; want %x", c.b, c.n, b, e, c.want)
		}
	}
	if b, e := codec.PutNumber(nil, 7); string(b) != "\x07\x00\x00\x00" || e != api.OK {
		t.Errorf("PutNumber(nil, 7): %x, %d", b, e)
	}
}

func TestPutNumberRefuses(t *testing.T) { // P1.1, and R1: beside an error there is nothing
	for _, n := range []int{-1, -2, -1000000000, math.MinInt32, math.MinInt, 1000000001, 1 << 30, math.MaxUint32, 1 << 32, 1<<32 + 7, math.MaxInt} {
		for _, b := range [][]byte{nil, {}, {0xff}} {
			if out, e := codec.PutNumber(b, n); len(out) != 0 || e != api.ErrArg {
				t.Errorf("PutNumber(%x, %d): %x, %d", b, n, out, e)
			}
		}
	}
}

func TestPutInt(t *testing.T) { // P1.2
	for _, c := range []struct {
		b    string
		n    int
		want string
	}{
		{"", 0, "\x00\x00\x00\x00\x00\x00\x00\x00"},
		{"", 1, "\x01\x00\x00\x00\x00\x00\x00\x00"},
		{"", -1, "\xff\xff\xff\xff\xff\xff\xff\xff"},
		{"", -2, "\xfe\xff\xff\xff\xff\xff\xff\xff"},
		{"", -256, "\x00\xff\xff\xff\xff\xff\xff\xff"},
		{"", 1000000001, "\x01\xca\x9a\x3b\x00\x00\x00\x00"},
		{"", 0x0102030405060708, "\x08\x07\x06\x05\x04\x03\x02\x01"},
		{"", math.MaxInt, "\xff\xff\xff\xff\xff\xff\xff\x7f"},
		{"", math.MinInt, "\x00\x00\x00\x00\x00\x00\x00\x80"},
		{"\x09\x08", 5, "\x09\x08\x05\x00\x00\x00\x00\x00\x00\x00"},
	} {
		if b := codec.PutInt([]byte(c.b), c.n); string(b) != c.want {
			t.Errorf("PutInt(%x, %d): %x; want %x", c.b, c.n, b, c.want)
		}
	}
}

func TestPutText(t *testing.T) { // P1.2
	for _, c := range []struct{ b, s, want string }{
		{"", "", "\x00\x00\x00\x00"},
		{"", "a", "\x01\x00\x00\x00a"},
		{"\x07", "ab", "\x07\x02\x00\x00\x00ab"},
		{"", "\x00\xff\xfe", "\x03\x00\x00\x00\x00\xff\xfe"},
		{"", "ö", "\x02\x00\x00\x00\xc3\xb6"},
		{"", strings.Repeat("x", 258), "\x02\x01\x00\x00" + strings.Repeat("x", 258)},
		{"z", strings.Repeat("y", 65535), "z\xff\xff\x00\x00" + strings.Repeat("y", 65535)},
		{"z", strings.Repeat("y", 65536), "z\x00\x00\x01\x00" + strings.Repeat("y", 65536)},
	} {
		if b, e := codec.PutText([]byte(c.b), c.s); string(b) != c.want || e != api.OK {
			t.Errorf("PutText(%x, %d bytes): %d bytes, %d", c.b, len(c.s), len(b), e)
		}
	}
	for _, n := range []int{65537, 65538, 131072, 1 << 20} {
		if b, e := codec.PutText([]byte("z"), strings.Repeat("y", n)); len(b) != 0 || e != api.ErrLimit {
			t.Errorf("PutText(%d bytes): %d bytes, %d", n, len(b), e)
		}
	}
}

func TestPutLongAhead(t *testing.T) { // what stands ahead is not bounded by MaxText
	ahead := strings.Repeat("q", 100000)
	b, e := codec.PutText([]byte(ahead), "w")
	if string(b) != ahead+"\x01\x00\x00\x00w" || e != api.OK {
		t.Errorf("PutText: %d bytes, %d", len(b), e)
	}
	if b := codec.PutInt([]byte(ahead), 1); len(b) != 100008 {
		t.Errorf("PutInt: %d bytes", len(b))
	}
	if b, e := codec.PutNumber([]byte(ahead), 1); len(b) != 100004 || e != api.OK {
		t.Errorf("PutNumber: %d bytes, %d", len(b), e)
	}
}

func TestReadNumber(t *testing.T) { // P1.3
	number(t, codec.New(nil), 0, api.ErrCodecEnd, 0)
	number(t, codec.New([]byte{1, 0, 0}), 0, api.ErrCodecEnd, 3)
	number(t, codec.New([]byte{0, 0, 0, 0}), 0, api.OK, 0)
	number(t, codec.New([]byte{2, 1, 0, 0, 9}), 258, api.OK, 1)
	number(t, codec.New([]byte("\x00\xca\x9a\x3b")), 1000000000, api.OK, 0)
	for _, s := range []string{"\x01\xca\x9a\x3b", "\x00\x00\x00\x40", "\x00\x00\x00\x80", "\xff\xff\xff\xff"} {
		r := codec.New([]byte(s + "zz"))
		number(t, r, 0, api.ErrCodecForm, 6)
		number(t, r, 0, api.ErrCodecForm, 6)
	}
}

func TestReadInt(t *testing.T) { // P1.3
	whole(t, codec.New(nil), 0, api.ErrCodecEnd, 0)
	whole(t, codec.New([]byte("\x01\x00\x00\x00\x00\x00\x00")), 0, api.ErrCodecEnd, 7)
	whole(t, codec.New([]byte("\x02\x01\x00\x00\x00\x00\x00\x00z")), 258, api.OK, 1)
	whole(t, codec.New([]byte("\x08\x07\x06\x05\x04\x03\x02\x01")), 0x0102030405060708, api.OK, 0)
	whole(t, codec.New([]byte("\xfe\xff\xff\xff\xff\xff\xff\xff")), -2, api.OK, 0)
	whole(t, codec.New([]byte("\xff\xff\xff\xff\xff\xff\xff\x7f")), math.MaxInt, api.OK, 0)
	whole(t, codec.New([]byte("\x00\x00\x00\x00\x00\x00\x00\x80")), math.MinInt, api.OK, 0)
}

func TestReadText(t *testing.T) { // P1.3
	text(t, codec.New(nil), "", api.ErrCodecEnd, 0)
	text(t, codec.New([]byte{0, 0, 0}), "", api.ErrCodecEnd, 3)
	text(t, codec.New([]byte{0, 0, 0, 0}), "", api.OK, 0)
	text(t, codec.New([]byte("\x03\x00\x00\x00\x00\xffaz")), "\x00\xffa", api.OK, 1)
	text(t, codec.New([]byte("\x03\x00\x00\x00ab")), "", api.ErrCodecEnd, 6)
	text(t, codec.New([]byte("\x01\x00\x00\x00")), "", api.ErrCodecEnd, 4)
	long := strings.Repeat("\xfd", 65536)
	text(t, codec.New([]byte("\x00\x00\x01\x00"+long+"z")), long, api.OK, 1)
	text(t, codec.New([]byte("\x00\x00\x01\x00"+long[1:])), "", api.ErrCodecEnd, 65539)
	text(t, codec.New([]byte("\x01\x00\x01\x00"+long+"z")), "", api.ErrCodecForm, 65541)
	// a length that may not be is told ahead of bytes that are missing
	text(t, codec.New([]byte("\x01\x00\x01\x00")), "", api.ErrCodecForm, 4)
	text(t, codec.New([]byte("\x00\xca\x9a\x3b")), "", api.ErrCodecForm, 4)
	text(t, codec.New([]byte("\xff\xff\xff\xff")), "", api.ErrCodecForm, 4)
}

func TestReaderStands(t *testing.T) { // P1.3: with an error the reader stands where it stood
	r := codec.New([]byte("\x05\x00\x00\x00abc"))
	text(t, r, "", api.ErrCodecEnd, 7)
	whole(t, r, 0, api.ErrCodecEnd, 7)
	text(t, r, "", api.ErrCodecEnd, 7)
	number(t, r, 5, api.OK, 3)
	number(t, r, 0, api.ErrCodecEnd, 3)
	whole(t, r, 0, api.ErrCodecEnd, 3)
	text(t, r, "", api.ErrCodecEnd, 3)

	r = codec.New([]byte("\xff\xff\xff\xff\xff\xff\xff\xff\x01\x00\x00\x00q"))
	number(t, r, 0, api.ErrCodecForm, 13)
	text(t, r, "", api.ErrCodecForm, 13)
	whole(t, r, -1, api.OK, 5)
	text(t, r, "q", api.OK, 0)
	number(t, r, 0, api.ErrCodecEnd, 0)
	whole(t, r, 0, api.ErrCodecEnd, 0)
	text(t, r, "", api.ErrCodecEnd, 0)
}

func TestReaderGoesOn(t *testing.T) { // P1.3: the kinds one behind the other
	r := codec.New([]byte("\x02\x01\x00\x00\x01\x00\x00\x00a\xff\xff\xff\xff\xff\xff\xff\xff\x09\x00\x00\x00"))
	if r.Left() != 21 {
		t.Errorf("Left at the beginning: %d", r.Left())
	}
	number(t, r, 258, api.OK, 17)
	text(t, r, "a", api.OK, 12)
	whole(t, r, -1, api.OK, 4)
	number(t, r, 9, api.OK, 0)
}

func TestLaidIsRead(t *testing.T) { // P1.4
	var b []byte
	numbers := []int{0, 1, 127, 128, 255, 256, 65535, 65536, 1 << 24, 999999999, 1000000000}
	ints := []int{0, 1, -1, 255, -256, 1 << 31, -1 << 31, 1 << 32, 1000000001, math.MaxInt, math.MinInt}
	texts := []string{"", "a", "\x00", "\xff\xfe", "äöü", strings.Repeat("ab", 200), strings.Repeat("c", 65535), strings.Repeat("d", 65536), "", "\x04\x00\x00\x00", "end"}
	for i := range numbers {
		b, _ = codec.PutNumber(b, numbers[i])
		b = codec.PutInt(b, ints[i])
		b, _ = codec.PutText(b, texts[i])
	}
	r := codec.New(b)
	left := len(b)
	for i := range numbers {
		left -= 4
		number(t, r, numbers[i], api.OK, left)
		left -= 8
		whole(t, r, ints[i], api.OK, left)
		left -= 4 + len(texts[i])
		text(t, r, texts[i], api.OK, left)
	}
	if r.Left() != 0 {
		t.Errorf("left behind all: %d", r.Left())
	}
}

func TestEveryBit(t *testing.T) { // P1.4: each bit has one place of its own
	for i := range 64 {
		n := int(uint64(1) << i)
		for _, m := range []int{n, n - 1, ^n} {
			b := codec.PutInt(nil, m)
			whole(t, codec.New(b), m, api.OK, 0)
			if b[i/8]>>(i%8)&1 != byte(uint64(m)>>i&1) {
				t.Errorf("PutInt(%d): %x", m, b)
			}
		}
		if i < 30 {
			b, _ := codec.PutNumber(nil, n)
			number(t, codec.New(b), n, api.OK, 0)
		}
	}
}

// relay reads from b by the kinds that steps tell, and lays again what it read: these must be b's own bytes.
func relay(t *testing.T, b, steps []byte) {
	t.Helper()
	r := codec.New(b)
	var out []byte
	for _, s := range steps {
		ahead := r.Left()
		var e api.Errno
		switch s % 3 {
		case 0:
			var n int
			if n, e = r.Number(); e == api.OK {
				out, _ = codec.PutNumber(out, n)
			}
		case 1:
			var n int
			if n, e = r.Int(); e == api.OK {
				out = codec.PutInt(out, n)
			}
		case 2:
			var s string
			if s, e = r.Text(); e == api.OK {
				out, _ = codec.PutText(out, s)
			}
		}
		if e != api.OK && r.Left() != ahead {
			t.Fatalf("an error %d, but %d are left of %d", e, r.Left(), ahead)
		}
		if len(out)+r.Left() != len(b) || !bytes.Equal(out, b[:len(out)]) {
			t.Fatalf("of %x by %x: %x laid again, left %d", b, steps, out, r.Left())
		}
	}
}

func FuzzReadIsLaid(f *testing.F) { // P1.4
	f.Add([]byte(nil), []byte{0, 1, 2})
	f.Add([]byte("\x02\x01\x00\x00\x01\x00\x00\x00a\xff\xff\xff\xff\xff\xff\xff\xff"), []byte{0, 2, 0, 2, 1, 0})
	f.Add([]byte("\x00\x00\x00\x00\x00\x00\x00\x00\x00\x00\x00\x00\x03\x00\x00\x00abcd"), []byte{1, 2, 2, 0, 1, 2})
	f.Add([]byte("\x01\xca\x9a\x3b\x00\xca\x9a\x3b\x01\x00\x01\x00"), []byte{0, 2, 1, 2, 0, 0})
	seed := uint32(1)
	for range 60 {
		b := make([]byte, 40)
		for i := range b {
			seed = seed*1664525 + 1013904223
			if seed>>31 == 0 { // half of them small, so that many are lengths that may be
				b[i] = byte(seed >> 24 % 4)
			} else if i%4 == 0 {
				b[i] = byte(seed >> 16)
			}
		}
		f.Add(b, b[8:])
	}
	f.Fuzz(relay)
}

func TestGivenIsNotWritten(t *testing.T) { // R2
	for name, put := range map[string]func([]byte) []byte{
		"PutNumber": func(b []byte) []byte { out, _ := codec.PutNumber(b, 0x01020304); return out },
		"PutInt":    func(b []byte) []byte { return codec.PutInt(b, -3) },
		"PutText":   func(b []byte) []byte { out, _ := codec.PutText(b, "text"); return out },
		"PutText0":  func(b []byte) []byte { out, _ := codec.PutText(b, ""); return out },
	} {
		for _, given := range []string{"", "abc"} {
			b := roomy(given)
			one := put(b)
			if !untouched(b, given) {
				t.Errorf("%s wrote into what was given: %x", name, b[:cap(b)])
			}
			kept := string(one)
			two := put(b)
			clear(b[:cap(b)])
			clear(two[:cap(two)])
			if string(one) != kept {
				t.Errorf("%s shares memory: %x, was %x", name, one, kept)
			}
			b = roomy(given)
			three := put(b)
			clear(three[:cap(three)])
			if !untouched(b, given) {
				t.Errorf("%s answers memory that was given: %x", name, b[:cap(b)])
			}
		}
	}
}

func TestRefusedIsNotWritten(t *testing.T) { // R2, with an error
	b := roomy("abc")
	codec.PutNumber(b, -1)
	codec.PutText(b, strings.Repeat("x", 65537))
	if !untouched(b, "abc") {
		t.Errorf("written into what was given: %x", b[:cap(b)])
	}
}

func TestGivenIsNotKept(t *testing.T) { // R2: a reader stands on bytes of its own
	given := "\x02\x01\x00\x00\x02\x00\x00\x00abz"
	b := roomy(given)
	r, other := codec.New(b), codec.New(b)
	number(t, other, 258, api.OK, 7)
	text(t, other, "ab", api.OK, 1)
	if !untouched(b, given) {
		t.Errorf("a reader wrote into what was given: %x", b[:cap(b)])
	}
	clear(b[:cap(b)])
	number(t, r, 258, api.OK, 7)
	text(t, r, "ab", api.OK, 1)
	number(t, r, 0, api.ErrCodecEnd, 1) // the spare room is not read
}

func TestNilReader(t *testing.T) { // R3
	var r *codec.Reader
	number(t, r, 0, api.ErrNil, 0)
	whole(t, r, 0, api.ErrNil, 0)
	text(t, r, "", api.ErrNil, 0)
}

func TestEmptyIsNotNil(t *testing.T) { // P1.3: a reader of no bytes is a reader
	for _, b := range [][]byte{nil, {}} {
		r := codec.New(b)
		if r == nil {
			t.Fatal("New answers a nil reader")
		}
		number(t, r, 0, api.ErrCodecEnd, 0)
		whole(t, r, 0, api.ErrCodecEnd, 0)
		text(t, r, "", api.ErrCodecEnd, 0)
	}
}
