package seal_test

import (
	"bytes"
	"encoding/binary"
	"hash/crc32"
	"slices"
	"strings"
	"testing"

	"folkmoot/api"
	"folkmoot/seal"
)

// none is the frame of no bytes.
const none = "\x00\x00\x00\x00\x1c\xdf\x44\x21"

// register reckons P2.1 bit by bit, as its words say.
func register(b []byte) uint32 {
	r := ^uint32(0)
	for _, x := range b {
		r ^= uint32(x)
		for range 8 {
			out := r & 1
			r >>= 1
			if out == 1 {
				r ^= 0xedb88320
			}
		}
	}
	return ^r
}

// lay makes a frame by the words of P2.2, without package seal, and with a length that may be a wrong one.
func lay(size uint32, body string) string {
	n := binary.LittleEndian.AppendUint32(nil, size)
	sum := register(append(slices.Clone(n), body...))
	return string(binary.LittleEndian.AppendUint32(n, sum)) + body
}

func frame(body string) string { return lay(uint32(len(body)), body) }

// noise answers n bytes from a short rule.
func noise(n int, seed uint32) []byte {
	b := make([]byte, n)
	for i := range b {
		seed = seed*1664525 + 1013904223
		b[i] = byte(seed >> 24)
	}
	return b
}

func first(t *testing.T, name, b, want string, size int, code api.Errno) {
	t.Helper()
	body, n, e := seal.First([]byte(b))
	if string(body) != want || n != size || e != code {
		t.Errorf("First(%s): %d bytes, %d, %d; want %d bytes, %d, %d", name, len(body), n, e, len(want), size, code)
	}
}

func all(t *testing.T, name, b string, want []string, size int, code api.Errno) {
	t.Helper()
	bodies, n, e := seal.All([]byte(b))
	same := slices.EqualFunc(bodies, want, func(body []byte, w string) bool { return string(body) == w })
	if !same || n != size || e != code {
		t.Errorf("All(%s): %d frames, %d, %d; want %d frames, %d, %d", name, len(bodies), n, e, len(want), size, code)
	}
}

func TestSum(t *testing.T) { // P2.1
	for _, c := range []struct {
		b    string
		want uint32
	}{
		{"", 0},
		{"a", 0xe8b7be43},
		{"\x00", 0xd202ef8d},
		{"\xff", 0xff000000},
		{"\x00\x00\x00\x00", 0x2144df1c},
		{"\xff\xff\xff\xff", 0xffffffff},
		{"123456789", 0xcbf43926},
	} {
		if s := seal.Sum([]byte(c.b)); s != c.want {
			t.Errorf("Sum(%x): %x; want %x", c.b, s, c.want)
		}
	}
	if s := seal.Sum(nil); s != 0 {
		t.Errorf("Sum(nil): %x", s)
	}
}

func TestSumIsTheRegister(t *testing.T) { // P2.1: each half of a byte, and bytes behind bytes
	for x := range 256 {
		for _, b := range [][]byte{{byte(x)}, {0x5a, byte(x)}, {byte(x), 0, byte(x)}} {
			if s := seal.Sum(b); s != register(b) {
				t.Errorf("Sum(%x): %x; want %x", b, s, register(b))
			}
		}
	}
	for _, n := range []int{2, 3, 4, 5, 7, 8, 9, 15, 16, 17, 63, 64, 65, 1000, api.MaxBody, api.MaxBody + 1, 3000000} {
		b := noise(n, uint32(n))
		if s := seal.Sum(b); s != register(b) || s != crc32.ChecksumIEEE(b) {
			t.Errorf("Sum of %d bytes: %x; want %x", n, s, register(b))
		}
	}
}

func TestFrame(t *testing.T) { // P2.2
	for _, c := range []struct{ name, b, want string }{
		{"none", "", none},
		{"a", "a", frame("a")},
		{"a byte ff", "\xff", frame("\xff")},
		{"8 noughts", strings.Repeat("\x00", 8), frame(strings.Repeat("\x00", 8))},
		{"a frame", none, frame(none)},
		{"258 bytes", strings.Repeat("x", 258), frame(strings.Repeat("x", 258))},
		{"70000 bytes", strings.Repeat("yz", 35000), frame(strings.Repeat("yz", 35000))},
		{"one below the most", string(noise(api.MaxBody-1, 1)), frame(string(noise(api.MaxBody-1, 1)))},
		{"the most", string(noise(api.MaxBody, 2)), frame(string(noise(api.MaxBody, 2)))},
	} {
		if b, e := seal.Frame([]byte(c.b)); string(b) != c.want || e != api.OK {
			t.Errorf("Frame(%s): %d bytes, %d; want %d bytes", c.name, len(b), e, len(c.want))
		}
	}
	if b, e := seal.Frame(nil); string(b) != none || e != api.OK {
		t.Errorf("Frame(nil): %x, %d", b, e)
	}
	// Written out by hand: 2 bytes, their sum with the length ahead of them, and they.
	if b, _ := seal.Frame([]byte("ab")); string(b[:4]) != "\x02\x00\x00\x00" || string(b[8:]) != "ab" ||
		binary.LittleEndian.Uint32(b[4:]) != crc32.ChecksumIEEE([]byte("\x02\x00\x00\x00ab")) {
		t.Errorf("Frame(ab): %x", b)
	}
}

func TestFrameRefuses(t *testing.T) { // P2.2, and R1: beside an error there is nothing
	for _, n := range []int{api.MaxBody + 1, api.MaxBody + 2, 2 * api.MaxBody, 1 << 24} {
		if b, e := seal.Frame(make([]byte, n)); len(b) != 0 || e != api.ErrLimit {
			t.Errorf("Frame(%d bytes): %d bytes, %d", n, len(b), e)
		}
	}
}

func TestFirst(t *testing.T) { // P2.3
	most := string(noise(api.MaxBody, 3))
	first(t, "of none", none, "", 8, api.OK)
	first(t, "of none and ff", none+"\xff", "", 8, api.OK)
	first(t, "of a", frame("a"), "a", 9, api.OK)
	first(t, "of abc and another", frame("abc")+frame("z"), "abc", 11, api.OK)
	first(t, "of abc and a cut one", frame("abc")+none[:7], "abc", 11, api.OK)
	first(t, "of a frame", frame(frame("x")), frame("x"), 17, api.OK)
	first(t, "of 300 bytes", frame(most[:300])+"tail", most[:300], 308, api.OK)
	first(t, "of the most", frame(most), most, 8+api.MaxBody, api.OK)
	first(t, "of the most and more", frame(most)+most, most, 8+api.MaxBody, api.OK)
}

func TestFirstOfTooFew(t *testing.T) { // P2.3: ErrSealEnd
	first(t, "nothing", "", "", 0, api.ErrSealEnd)
	for _, b := range []string{none, frame("abc"), strings.Repeat("\xff", 8), "\x01\x00\x10\x00\x00\x00\x00\x00"} {
		for n := range 8 { // too few for a length and a sum, whatever they are
			first(t, "below 8 bytes", b[:n], "", 0, api.ErrSealEnd)
		}
	}
	for n := 8; n < len(frame("abcdef")); n++ {
		first(t, "a cut frame", frame("abcdef")[:n], "", 0, api.ErrSealEnd)
	}
	first(t, "01 and seven noughts", "\x01\x00\x00\x00\x00\x00\x00\x00", "", 0, api.ErrSealEnd)
	// Bytes that are missing are told ahead of a sum that is another one.
	first(t, "a wrong sum, cut", "\x02\x00\x00\x00\xff\xff\xff\xffa", "", 0, api.ErrSealEnd)
	whole := frame(string(noise(api.MaxBody, 4)))
	first(t, "the most without its last byte", whole[:len(whole)-1], "", 0, api.ErrSealEnd)
	first(t, "the head of the most", whole[:8], "", 0, api.ErrSealEnd)
}

func TestFirstOfTooLong(t *testing.T) { // P2.3: ErrSealSum, whether the bytes are there or not, and were their sum the right one
	body := string(noise(api.MaxBody+1, 5))
	first(t, "one above, whole", frame(body), "", 0, api.ErrSealSum)
	for _, size := range []uint32{api.MaxBody + 1, 1 << 21, 1 << 24, api.MaxNumber, api.MaxNumber + 1, 1 << 31, 1<<32 - 1} {
		first(t, "a length that may not be", lay(size, ""), "", 0, api.ErrSealSum)
		first(t, "a length that may not be, and bytes", lay(size, "abc"), "", 0, api.ErrSealSum)
	}
	first(t, "eight bytes ff", strings.Repeat("\xff", 8), "", 0, api.ErrSealSum)
	first(t, "eight bytes ff and more", strings.Repeat("\xff", 50), "", 0, api.ErrSealSum)
}

func TestFirstOfAnotherSum(t *testing.T) { // P2.3
	first(t, "eight noughts", strings.Repeat("\x00", 8), "", 0, api.ErrSealSum)
	first(t, "the sum turned round", "\x00\x00\x00\x00\x21\x44\xdf\x1c", "", 0, api.ErrSealSum)
	first(t, "a length that is not summed", "\x01\x00\x00\x00\x43\xbe\xb7\xe8a", "", 0, api.ErrSealSum)
	first(t, "a sum with its bits not turned", "\x00\x00\x00\x00\xe3\x20\xbb\xde", "", 0, api.ErrSealSum)
	first(t, "a shorter length", "\x02"+frame("abc")[1:], "", 0, api.ErrSealSum)
	first(t, "a longer length", "\x04"+frame("abc")[1:]+"d", "", 0, api.ErrSealSum)
	first(t, "another's sum", frame("abc")[:8]+"abd", "", 0, api.ErrSealSum)
	most := []byte(frame(string(noise(api.MaxBody, 6))))
	most[len(most)-1] ^= 1
	first(t, "the most with another last bit", string(most), "", 0, api.ErrSealSum)
}

func TestAll(t *testing.T) { // P2.4
	three := frame("a") + none + frame("bc")
	all(t, "nothing", "", nil, 0, api.OK)
	all(t, "none", none, []string{""}, 8, api.OK)
	all(t, "none, none, ff", none+none+"\xff", []string{"", ""}, 16, api.ErrSealEnd)
	all(t, "three", three, []string{"a", "", "bc"}, 27, api.OK)
	all(t, "three and 7 bytes", three+none[:7], []string{"a", "", "bc"}, 27, api.ErrSealEnd)
	all(t, "three and a frame without its last byte", three+frame("def")[:10], []string{"a", "", "bc"}, 27, api.ErrSealEnd)
	all(t, "three, another sum, one more", three+strings.Repeat("\x00", 8)+frame("z"), []string{"a", "", "bc"}, 27, api.ErrSealSum)
	all(t, "three, too long a length, one more", three+lay(api.MaxBody+1, "")+frame("z"), []string{"a", "", "bc"}, 27, api.ErrSealSum)
	all(t, "ff", "\xff", nil, 0, api.ErrSealEnd)
	all(t, "eight bytes ff", strings.Repeat("\xff", 8), nil, 0, api.ErrSealSum)
	all(t, "another sum ahead of a frame", strings.Repeat("\x00", 8)+none, nil, 0, api.ErrSealSum)
	all(t, "frames in a frame", frame(three), []string{three}, 35, api.OK)
	most := string(noise(api.MaxBody, 7))
	all(t, "the most, twice, and one above", frame(most)+frame(most)+frame(most+"x"), []string{most, most}, 2*(8+api.MaxBody), api.ErrSealSum)
	if bodies, n, e := seal.All(nil); len(bodies) != 0 || n != 0 || e != api.OK {
		t.Errorf("All(nil): %d frames, %d, %d", len(bodies), n, e)
	}
}

func TestManyFrames(t *testing.T) { // P2.4, P2.5: what is framed is found again, one behind the other
	var b []byte
	var want []string
	for i := range 3000 {
		body := noise(i%70, uint32(i))
		one, e := seal.Frame(body)
		if e != api.OK {
			t.Fatalf("Frame(%d bytes): %d", len(body), e)
		}
		first(t, "what was framed", string(one), string(body), len(one), api.OK)
		b = append(b, one...)
		want = append(want, string(body))
	}
	all(t, "3000 frames", string(b), want, len(b), api.OK)
	all(t, "3000 frames and ff", string(b)+"\xff", want, len(b), api.ErrSealEnd)
}

func TestNoByteIsAnother(t *testing.T) { // P2.5
	for _, body := range []string{"", "a", "\x00\x00\x00\x00", "\xff\xff\xff\xff\xff", string(noise(40, 8))} {
		one := frame(body)
		for i := 4; i < len(one); i++ {
			for x := 1; x < 256; x++ {
				b := []byte(one)
				b[i] ^= byte(x)
				first(t, "another byte", string(b), "", 0, api.ErrSealSum)
				all(t, "another byte", string(b)+none, nil, 0, api.ErrSealSum)
			}
		}
	}
}

func TestCutTellsABeginning(t *testing.T) { // P2.5
	bodies := []string{"a", "", "bcd", string(noise(30, 9)), none, ""}
	var b string
	ends := []int{0}
	for _, body := range bodies {
		b += frame(body)
		ends = append(ends, len(b))
	}
	for n := range len(b) + 1 {
		whole := 0
		for whole+1 < len(ends) && ends[whole+1] <= n {
			whole++
		}
		code := api.ErrSealEnd
		if ends[whole] == n {
			code = api.OK
		}
		all(t, "what was cut off", b[:n], bodies[:whole], ends[whole], code)
	}
}

// again frames what All found and holds it against what All was given: T7, any bytes are just one thing, or refused.
func again(t *testing.T, b []byte) {
	t.Helper()
	bodies, n, code := seal.All(b)
	var laid []byte
	for _, body := range bodies {
		one, e := seal.Frame(body)
		if e != api.OK {
			t.Fatalf("Frame(%d bytes): %d", len(body), e)
		}
		laid = append(laid, one...)
	}
	if n != len(laid) || n > len(b) || !bytes.Equal(laid, b[:n]) {
		t.Fatalf("All(%x): %d bytes; laid again: %x", b, n, laid)
	}
	body, size, e := seal.First(b[n:])
	if (code == api.OK) != (n == len(b)) || code != api.OK && e != code || len(body) != 0 || size != 0 {
		t.Fatalf("All(%x): %d, %d; First of the rest: %x, %d, %d", b, n, code, body, size, e)
	}
}

func FuzzFoundIsLaid(f *testing.F) { // P2.5
	f.Add([]byte(nil))
	f.Add([]byte(none + none + "\xff"))
	f.Add([]byte(frame("abc") + frame("d") + strings.Repeat("\x00", 8)))
	f.Add([]byte(frame("abc") + lay(api.MaxBody+1, "e")))
	for i := range 20 {
		b := []byte(frame("ab") + frame("c") + none)
		b[i] ^= 1 << (i % 8)
		f.Add(b)
	}
	f.Fuzz(again)
}

// fill is what stands in the spare room of what is handed in: frames, that may not be read either.
var fill = strings.Repeat(none, 6)

func roomy(s string) []byte {
	return []byte(s + fill)[:len(s)]
}

func untouched(t *testing.T, name string, b []byte, was string) {
	t.Helper()
	if string(b[:len(was)+len(fill)]) != was+fill {
		t.Errorf("%s wrote into what was given: %x", name, b[:cap(b)])
	}
}

func TestGivenIsNotWritten(t *testing.T) { // R2
	frames := frame("abc") + none + frame("defg")
	for _, given := range []string{"", "a", none, frames, frames[:len(frames)-1], strings.Repeat("\x00", 8)} {
		b := roomy(given)
		seal.Sum(b)
		one, _ := seal.Frame(b)
		body, _, _ := seal.First(b)
		bodies, _, _ := seal.All(b)
		untouched(t, "a call", b, given)
		for _, out := range append(bodies, one, body) {
			clear(out[:cap(out)]) // what comes out shares nothing with what was given
		}
		untouched(t, "an answer", b, given)
		if s := seal.Sum(b); s != register([]byte(given)) {
			t.Errorf("Sum(%x): %x", given, s)
		}
	}
}

func TestAnswersAreNewMemory(t *testing.T) { // R2
	b := roomy(frame("abc") + none + frame("defg"))
	one, _ := seal.Frame(b)
	body, _, _ := seal.First(b)
	bodies, _, _ := seal.All(b)
	kept := string(one)
	clear(b[:cap(b)])
	for i := range bodies { // nor with one another, their spare room included
		bodies[i] = append(bodies[i], "zzzz"...)
	}
	if string(one) != kept || string(body) != "abc" || string(bodies[0]) != "abczzzz" || string(bodies[1]) != "zzzz" || string(bodies[2]) != "defgzzzz" {
		t.Errorf("an answer shares memory: %x, %s, %s", one, body, bodies)
	}
	once, _ := seal.Frame([]byte("q"))
	twice, _ := seal.Frame([]byte("q"))
	clear(once[:cap(once)])
	if string(twice) != frame("q") {
		t.Errorf("two answers share memory: %x", twice)
	}
}

func TestSpareRoomIsNotRead(t *testing.T) { // R2: what a call answers hangs on the bytes that it is given alone
	cut := frame("abc")
	b := []byte(cut)[:len(cut)-1]
	if body, n, e := seal.First(b); len(body) != 0 || n != 0 || e != api.ErrSealEnd {
		t.Errorf("First: %x, %d, %d", body, n, e)
	}
	if bodies, n, e := seal.All(roomy(none)); len(bodies) != 1 || n != 8 || e != api.OK {
		t.Errorf("All: %x, %d, %d", bodies, n, e)
	}
	if body, n, e := seal.First(roomy("")); len(body) != 0 || n != 0 || e != api.ErrSealEnd {
		t.Errorf("First: %x, %d, %d", body, n, e)
	}
}
