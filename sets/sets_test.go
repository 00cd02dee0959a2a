package sets_test

import (
	"math"
	"slices"
	"testing"

	"folkmoot/api"
	"folkmoot/sets"
)

const (
	low  = math.MinInt
	high = math.MaxInt
)

// upTo answers 1 to n.
func upTo(n int) api.Set {
	s := make(api.Set, n)
	for i := range s {
		s[i] = i + 1
	}
	return s
}

// every answers n numbers that rise by step from start on.
func every(start, step, n int) api.Set {
	s := make(api.Set, n)
	for i := range s {
		s[i] = start + i*step
	}
	return s
}

// changed answers s with n at the place i.
func changed(s api.Set, i, n int) api.Set {
	s = slices.Clone(s)
	s[i] = n
	return s
}

// wide are numbers of all sizes, rising: DOC.md bounds the numbers of a set on no side, so the edges are those of int.
var wide = api.Set{low, low + 1, math.MinInt32 - 1, -1000000001, -1000000000, -2, -1, 0, 1, 16, 17, 1000000000, 1000000001, math.MaxUint32, high - 1, high}

// noSets are rows that are no sets of at most 16 numbers.
var noSets = map[string]api.Set{
	"falling":                 {2, 1},
	"falling behind rising":   {1, 2, 3, 2},
	"falling ahead of rising": {3, 1, 2},
	"falling in the midst":    {1, 5, 4, 6},
	"the same twice":          {1, 1},
	"noughts":                 {0, 0},
	"the first two the same":  {1, 1, 2, 3},
	"the midst ones the same": {1, 2, 2, 3},
	"the last two the same":   {1, 2, 3, 3},
	"the least twice":         {low, low},
	"the greatest twice":      {high, high},
	"from greatest to least":  {high, low},
	"from least to least":     {low, high, low},
	"below 0 falling":         {-1, -2},
	"17":                      upTo(17),
	"17 from below 0":         every(-8, 1, 17),
	"18":                      upTo(18),
	"16, the last two equal":  changed(upTo(16), 15, 15),
	"16, the first two equal": changed(upTo(16), 0, 2),
	"17, the last one wrong":  changed(upTo(17), 16, 1),
	"100000":                  upTo(100000),
}

// goodSets are sets.
var goodSets = []api.Set{nil, {}, {0}, {1}, {-1}, {low}, {high}, {low, high}, {low, low + 1}, {high - 1, high}, {1, 2}, {1, 3, 5}, {-5, 0, 5}, {-1, 0}, {0, 1000000000}, {0, 1000000001}, {-1, 1000000000}, upTo(3), upTo(15), upTo(16), every(-16, 1, 16), every(0, 1000000000, 16), wide}

func answers(t *testing.T, name string, s api.Set, code api.Errno, want api.Set, wantCode api.Errno) {
	t.Helper()
	if !slices.Equal(s, want) || code != wantCode {
		t.Errorf("%s: %v, %d; want %v, %d", name, s, code, want, wantCode)
	}
}

func with(t *testing.T, s api.Set, n int, want api.Set, wantCode api.Errno) {
	t.Helper()
	out, code := sets.With(s, n)
	if !slices.Equal(out, want) || code != wantCode {
		t.Errorf("With(%v, %d): %v, %d; want %v, %d", s, n, out, code, want, wantCode)
	}
}

func without(t *testing.T, s api.Set, n int, want api.Set, wantCode api.Errno) {
	t.Helper()
	out, code := sets.Without(s, n)
	if !slices.Equal(out, want) || code != wantCode {
		t.Errorf("Without(%v, %d): %v, %d; want %v, %d", s, n, out, code, want, wantCode)
	}
}

// both holds Both against want, in both orders.
func both(t *testing.T, a, b, want api.Set, wantCode api.Errno) {
	t.Helper()
	for range 2 {
		out, code := sets.Both(a, b)
		if !slices.Equal(out, want) || code != wantCode {
			t.Errorf("Both(%v, %v): %v, %d; want %v, %d", a, b, out, code, want, wantCode)
		}
		a, b = b, a
	}
}

// common holds Common against want, in both orders.
func common(t *testing.T, a, b, want api.Set, wantCode api.Errno) {
	t.Helper()
	for range 2 {
		out, code := sets.Common(a, b)
		if !slices.Equal(out, want) || code != wantCode {
			t.Errorf("Common(%v, %v): %v, %d; want %v, %d", a, b, out, code, want, wantCode)
		}
		a, b = b, a
	}
}

func TestExamples(t *testing.T) { // P4.1 to P4.3
	if !sets.Is(api.Set{1, 2, 5}) || sets.Is(api.Set{2, 1}) || sets.Is(api.Set{1, 1}) || !sets.Is(nil) {
		t.Error("Is of 1 2 5, of 2 1, of 1 1, or of none")
	}
	with(t, api.Set{1, 5}, 3, api.Set{1, 3, 5}, api.OK)
	with(t, api.Set{1, 5}, 5, api.Set{1, 5}, api.OK)
	with(t, api.Set{5, 1}, 3, nil, api.ErrArg)
	without(t, api.Set{1, 3, 5}, 3, api.Set{1, 5}, api.OK)
	without(t, api.Set{1, 3, 5}, 4, api.Set{1, 3, 5}, api.OK)
	both(t, api.Set{1, 5}, api.Set{3, 5}, api.Set{1, 3, 5}, api.OK)
	common(t, api.Set{1, 5}, api.Set{3, 5}, api.Set{5}, api.OK)
}

func TestIs(t *testing.T) { // P4.1
	for _, s := range goodSets {
		if !sets.Is(s) {
			t.Errorf("Is(%v): false", s)
		}
	}
	for name, s := range noSets {
		if sets.Is(s) {
			t.Errorf("Is of %s: true", name)
		}
	}
}

func TestIsAtEachPlace(t *testing.T) { // P4.1: two neighbours that don't rise, wherever they stand
	for n := 2; n <= 16; n++ {
		s := every(10, 10, n)
		for i := range n - 1 {
			for _, wrong := range []int{s[i], s[i] - 1, low} {
				if c := changed(s, i+1, wrong); sets.Is(c) {
					t.Errorf("Is(%v): true", c)
				}
			}
			if c := changed(s, i+1, s[i]+1); !sets.Is(c) {
				t.Errorf("Is(%v): false", c)
			}
		}
	}
}

func TestIsOfMany(t *testing.T) { // P4.1: 16 at most
	for n := range 40 {
		if is := sets.Is(upTo(n)); is != (n <= 16) {
			t.Errorf("Is of %d numbers: %t", n, is)
		}
	}
}

func TestHas(t *testing.T) { // P4.1
	for _, s := range goodSets {
		for _, n := range append(wide, 2, 3, 4, 5, -5, 6, 15, 18, 15000000000) {
			want := false
			for _, x := range s {
				want = want || x == n
			}
			if sets.Has(s, n) != want {
				t.Errorf("Has(%v, %d): %t", s, n, !want)
			}
		}
	}
}

func TestHasInNoSet(t *testing.T) { // P4.1: whatever the row is
	for name, s := range noSets {
		for _, n := range []int{s[0], s[len(s)/2], s[len(s)-1]} {
			if !sets.Has(s, n) {
				t.Errorf("Has of %s, %d: false", name, n)
			}
		}
		for _, n := range []int{1 << 40, -1 << 40} {
			if sets.Has(s, n) {
				t.Errorf("Has of %s, %d: true", name, n)
			}
		}
	}
	fallen := api.Set{9, 7, 8, 1, 7, 3}
	for n, want := range []bool{false, true, false, true, false, false, false, true, true, true, false} {
		if sets.Has(fallen, n) != want {
			t.Errorf("Has(%v, %d): %t", fallen, n, !want)
		}
	}
}

func TestSame(t *testing.T) { // P4.1
	for _, c := range []struct {
		a, b api.Set
		want bool
	}{
		{nil, nil, true},
		{nil, api.Set{}, true},
		{nil, api.Set{0}, false},
		{api.Set{0}, api.Set{0}, true},
		{api.Set{0}, api.Set{1}, false},
		{api.Set{0}, api.Set{0, 0}, false},
		{api.Set{1, 2, 5}, api.Set{1, 2, 5}, true},
		{api.Set{1, 2, 5}, api.Set{1, 2}, false},
		{api.Set{1, 2, 5}, api.Set{2, 5}, false},
		{api.Set{1, 2, 5}, api.Set{1, 2, 6}, false},
		{api.Set{1, 2, 5}, api.Set{0, 2, 5}, false},
		{api.Set{1, 2, 5}, api.Set{1, 3, 5}, false},
		{api.Set{1, 2, 5}, api.Set{-1, -2, -5}, false},
		{api.Set{low}, api.Set{high}, false},
		{wide, slices.Clone(wide), true},
		// of rows that are no sets
		{api.Set{2, 1}, api.Set{2, 1}, true},
		{api.Set{2, 1}, api.Set{1, 2}, false},
		{api.Set{1, 1}, api.Set{1, 1}, true},
		{api.Set{1, 1}, api.Set{1}, false},
		{api.Set{1, 1, 2}, api.Set{1, 2, 2}, false},
		{upTo(17), upTo(17), true},
		{upTo(17), upTo(16), false},
		{upTo(17), changed(upTo(17), 16, 18), false},
		{upTo(100000), upTo(100000), true},
		{upTo(100000), changed(upTo(100000), 99999, 0), false},
	} {
		if sets.Same(c.a, c.b) != c.want || sets.Same(c.b, c.a) != c.want {
			t.Errorf("Same(%v, %v): not %t", c.a, c.b, c.want)
		}
	}
	for name, s := range noSets {
		if !sets.Same(s, slices.Clone(s)) {
			t.Errorf("Same of %s and itself: false", name)
		}
	}
}

func TestWith(t *testing.T) { // P4.2
	for _, c := range []struct {
		s    api.Set
		n    int
		want api.Set
	}{
		{nil, 0, api.Set{0}},
		{nil, -7, api.Set{-7}},
		{api.Set{}, 1, api.Set{1}},
		{api.Set{3}, 3, api.Set{3}},
		{api.Set{3}, 2, api.Set{2, 3}},
		{api.Set{3}, 4, api.Set{3, 4}},
		{api.Set{2, 4, 6}, 1, api.Set{1, 2, 4, 6}},
		{api.Set{2, 4, 6}, 3, api.Set{2, 3, 4, 6}},
		{api.Set{2, 4, 6}, 5, api.Set{2, 4, 5, 6}},
		{api.Set{2, 4, 6}, 7, api.Set{2, 4, 6, 7}},
		{api.Set{2, 4, 6}, 2, api.Set{2, 4, 6}},
		{api.Set{2, 4, 6}, 4, api.Set{2, 4, 6}},
		{api.Set{2, 4, 6}, 6, api.Set{2, 4, 6}},
		{upTo(14), 15, upTo(15)},
		{upTo(15), 16, upTo(16)},
		{every(2, 1, 15), 1, upTo(16)},
	} {
		with(t, c.s, c.n, c.want, api.OK)
	}
}

func TestWithOfAnyNumber(t *testing.T) { // P4.2: no number is refused for what it is
	for _, n := range wide {
		with(t, nil, n, api.Set{n}, api.OK)
		with(t, api.Set{n}, n, api.Set{n}, api.OK)
	}
	with(t, api.Set{low, high}, 0, api.Set{low, 0, high}, api.OK)
	with(t, api.Set{0}, low, api.Set{low, 0}, api.OK)
	with(t, api.Set{0}, high, api.Set{0, high}, api.OK)
	with(t, api.Set{low}, high, api.Set{low, high}, api.OK)
	with(t, api.Set{high}, low, api.Set{low, high}, api.OK)
	with(t, api.Set{0}, -1, api.Set{-1, 0}, api.OK)
	with(t, api.Set{1000000000}, 1000000001, api.Set{1000000000, 1000000001}, api.OK)
}

func TestWithOfAFullSet(t *testing.T) { // P4.2
	full := every(10, 10, 16)
	for _, n := range full {
		with(t, full, n, full, api.OK)
	}
	for _, n := range []int{low, -1, 0, 9, 11, 15, 85, 159, 161, 170, high} {
		with(t, full, n, nil, api.ErrLimit)
	}
	for _, n := range wide {
		with(t, wide, n, wide, api.OK)
	}
	with(t, wide, 2, nil, api.ErrLimit)
}

func TestWithout(t *testing.T) { // P4.2
	for _, c := range []struct {
		s    api.Set
		n    int
		want api.Set
	}{
		{nil, 0, nil},
		{api.Set{}, 1, nil},
		{api.Set{0}, 0, nil},
		{api.Set{3}, 3, nil},
		{api.Set{3}, 2, api.Set{3}},
		{api.Set{3}, 4, api.Set{3}},
		{api.Set{low}, low, nil},
		{api.Set{high}, high, nil},
		{api.Set{low, high}, low, api.Set{high}},
		{api.Set{low, high}, high, api.Set{low}},
		{api.Set{2, 4, 6}, 2, api.Set{4, 6}},
		{api.Set{2, 4, 6}, 4, api.Set{2, 6}},
		{api.Set{2, 4, 6}, 6, api.Set{2, 4}},
		{api.Set{2, 4, 6}, 1, api.Set{2, 4, 6}},
		{api.Set{2, 4, 6}, 3, api.Set{2, 4, 6}},
		{api.Set{2, 4, 6}, 7, api.Set{2, 4, 6}},
		{api.Set{2, 4, 6}, -4, api.Set{2, 4, 6}},
		{upTo(16), 16, upTo(15)},
		{upTo(16), 1, every(2, 1, 15)},
		{upTo(16), 17, upTo(16)},
		{upTo(16), 0, upTo(16)},
	} {
		without(t, c.s, c.n, c.want, api.OK)
	}
	for i, n := range wide {
		without(t, wide, n, slices.Delete(slices.Clone(wide), i, i+1), api.OK)
	}
}

func TestBoth(t *testing.T) { // P4.3
	for _, c := range []struct{ a, b, want api.Set }{
		{nil, nil, nil},
		{nil, api.Set{}, nil},
		{nil, api.Set{4}, api.Set{4}},
		{nil, upTo(16), upTo(16)},
		{api.Set{1}, api.Set{2}, api.Set{1, 2}},
		{api.Set{1, 2}, api.Set{3, 4}, api.Set{1, 2, 3, 4}},
		{api.Set{1, 3}, api.Set{2, 4}, api.Set{1, 2, 3, 4}},
		{api.Set{1, 4}, api.Set{2, 3}, api.Set{1, 2, 3, 4}},
		{api.Set{1, 2, 3}, api.Set{2}, api.Set{1, 2, 3}},
		{api.Set{1, 2, 3}, api.Set{2, 3, 4}, api.Set{1, 2, 3, 4}},
		{api.Set{low, high}, api.Set{low, 0, high}, api.Set{low, 0, high}},
		{api.Set{-1, 0}, api.Set{0, 1}, api.Set{-1, 0, 1}},
		{upTo(8), every(9, 1, 8), upTo(16)},
		{upTo(10), every(5, 1, 12), upTo(16)},
		{upTo(15), api.Set{16}, upTo(16)},
		{every(1, 2, 8), every(2, 2, 8), upTo(16)},
		{upTo(16), every(3, 5, 3), upTo(16)},
	} {
		both(t, c.a, c.b, c.want, api.OK)
	}
	for _, s := range goodSets { // of a set with itself, and with none
		both(t, s, s, s, api.OK)
		both(t, s, slices.Clone(s), s, api.OK)
		both(t, s, nil, s, api.OK)
	}
}

func TestBothOfTooMany(t *testing.T) { // P4.3
	for _, c := range []struct{ a, b api.Set }{
		{upTo(16), api.Set{17}},
		{upTo(16), api.Set{0}},
		{upTo(16), api.Set{16, 17}},
		{upTo(8), every(9, 1, 9)},
		{upTo(10), every(5, 1, 13)},
		{every(1, 2, 9), every(2, 2, 8)},
		{upTo(16), every(2, 1, 16)},
		{upTo(16), every(17, 1, 16)},
		{every(10, 10, 16), api.Set{25}},
		{wide, api.Set{2}},
	} {
		both(t, c.a, c.b, nil, api.ErrLimit)
	}
}

func TestCommon(t *testing.T) { // P4.3
	for _, c := range []struct{ a, b, want api.Set }{
		{nil, nil, nil},
		{nil, api.Set{}, nil},
		{nil, api.Set{0}, nil},
		{nil, upTo(16), nil},
		{api.Set{1}, api.Set{2}, nil},
		{api.Set{1, 2}, api.Set{3, 4}, nil},
		{api.Set{1, 3, 5}, api.Set{0, 2, 4, 6}, nil},
		{api.Set{1, 3}, api.Set{1}, api.Set{1}},
		{api.Set{1, 3}, api.Set{3}, api.Set{3}},
		{api.Set{1, 2, 3}, api.Set{2, 3, 4}, api.Set{2, 3}},
		{api.Set{1, 2, 3, 9}, api.Set{1, 4, 9}, api.Set{1, 9}},
		{api.Set{low, 0, high}, api.Set{low, high}, api.Set{low, high}},
		{api.Set{low, -1}, api.Set{1, high}, nil},
		{upTo(16), every(17, 1, 16), nil},
		{upTo(16), every(16, 1, 16), api.Set{16}},
		{upTo(16), every(2, 1, 16), every(2, 1, 15)},
		{upTo(16), every(2, 2, 16), every(2, 2, 8)},
	} {
		common(t, c.a, c.b, c.want, api.OK)
	}
	for _, s := range goodSets { // of a set with itself, and with none
		common(t, s, s, s, api.OK)
		common(t, s, slices.Clone(s), s, api.OK)
		common(t, s, nil, nil, api.OK)
	}
}

func TestNoSetsAreRefused(t *testing.T) { // P4.2, P4.3: ErrArg ahead of all else
	for name, s := range noSets {
		for _, n := range []int{s[0], s[len(s)-1], 0, low, high} { // of numbers that are in it, too
			out, code := sets.With(s, n)
			answers(t, "With of "+name, out, code, nil, api.ErrArg)
			out, code = sets.Without(s, n)
			answers(t, "Without of "+name, out, code, nil, api.ErrArg)
		}
		for _, other := range []api.Set{nil, {1}, {1, 5}, upTo(16), every(100, 1, 16), s, upTo(17)} {
			out, code := sets.Both(s, other)
			answers(t, "Both of "+name, out, code, nil, api.ErrArg)
			out, code = sets.Both(other, s)
			answers(t, "Both with "+name, out, code, nil, api.ErrArg)
			out, code = sets.Common(s, other)
			answers(t, "Common of "+name, out, code, nil, api.ErrArg)
			out, code = sets.Common(other, s)
			answers(t, "Common with "+name, out, code, nil, api.ErrArg)
		}
	}
}

// seven are the numbers of which the tests below take all sets that there are.
var seven = api.Set{low, -1, 0, 1, 7, 1000000001, high}

// some answers those of seven whose bits are in mask.
func some(mask int) api.Set {
	var s api.Set
	for i, n := range seven {
		if mask&(1<<i) != 0 {
			s = append(s, n)
		}
	}
	return s
}

func TestAllPairs(t *testing.T) { // P4.3, P4.4: in both just if in one, in common just if in each
	for a := range 1 << len(seven) {
		for b := range 1 << len(seven) {
			out, code := sets.Both(some(a), some(b))
			answers(t, "Both", out, code, some(a|b), api.OK)
			out, code = sets.Common(some(a), some(b))
			answers(t, "Common", out, code, some(a&b), api.OK)
			if sets.Same(some(a), some(b)) != (a == b) {
				t.Errorf("Same(%v, %v): %t", some(a), some(b), a != b)
			}
		}
	}
}

func TestWithAndWithout(t *testing.T) { // P4.2, P4.4: with n, and without it again
	for a := range 1 << len(seven) {
		for i, n := range seven {
			s, bit := some(a), 1<<i
			with(t, s, n, some(a|bit), api.OK)
			without(t, s, n, some(a&^bit), api.OK)
			in, _ := sets.With(s, n)
			without(t, in, n, some(a&^bit), api.OK)
			gone, _ := sets.Without(s, n)
			with(t, gone, n, some(a|bit), api.OK)
			if sets.Has(s, n) != (a&bit != 0) || !sets.Has(in, n) || sets.Has(gone, n) {
				t.Errorf("Has, of %v, %d", s, n)
			}
			if !sets.Is(in) || !sets.Is(gone) {
				t.Errorf("of %v and %d: %v and %v", s, n, in, gone)
			}
		}
	}
}

// lay lays the numbers into a set in their order.
func lay(t *testing.T, numbers []int) api.Set {
	t.Helper()
	var s api.Set
	for _, n := range numbers {
		var code api.Errno
		if s, code = sets.With(s, n); code != api.OK || !sets.Has(s, n) {
			t.Fatalf("With, of %v in their order: %d at %d", numbers, code, n)
		}
	}
	return s
}

// orders calls see with all orders of numbers.
func orders(numbers []int, at int, see func([]int)) {
	if at == len(numbers) {
		see(numbers)
		return
	}
	for i := at; i < len(numbers); i++ {
		numbers[at], numbers[i] = numbers[i], numbers[at]
		orders(numbers, at+1, see)
		numbers[at], numbers[i] = numbers[i], numbers[at]
	}
}

func TestEveryOrder(t *testing.T) { // P4.4
	seen := 0
	orders(slices.Clone(seven), 0, func(numbers []int) {
		seen++
		if s := lay(t, numbers); !slices.Equal(s, seven) {
			t.Errorf("%v in their order: %v", numbers, s)
		}
	})
	if seen != 5040 {
		t.Errorf("%d orders", seen)
	}
}

func TestOrdersOfAFullSet(t *testing.T) { // P4.4: of 16 numbers; twice laid, and taken out in another order
	seed := uint32(1)
	for range 300 {
		numbers := slices.Clone(wide)
		for i := range numbers {
			seed = seed*1664525 + 1013904223
			j := i + int(seed>>16)%(len(numbers)-i)
			numbers[i], numbers[j] = numbers[j], numbers[i]
		}
		s := lay(t, append(slices.Clone(numbers), numbers...))
		if !slices.Equal(s, wide) {
			t.Fatalf("%v in their order: %v", numbers, s)
		}
		for i, n := range numbers {
			var code api.Errno
			s, code = sets.Without(s, n)
			left := slices.Sorted(slices.Values(numbers[i+1:]))
			answers(t, "Without", s, code, left, api.OK)
		}
	}
}

// roomy answers s with spare room behind it, in which something stands.
func roomy(s api.Set) api.Set {
	all := append(slices.Clone(s), every(3, 1, 40)...)
	return all[:len(s)]
}

// untouched tells whether s is still what roomy made of was.
func untouched(s, was api.Set) bool {
	return slices.Equal(s, was) && slices.Equal(s[len(s):len(s)+40], every(3, 1, 40))
}

// pairs are what the calls of the tests below are handed; Without and With take the second one's first number, or 4.
var pairs = []struct{ a, b api.Set }{
	{nil, nil},
	{nil, api.Set{4}},
	{api.Set{4}, nil},
	{api.Set{4}, api.Set{4}},
	{api.Set{1, 2}, api.Set{8, 9}},
	{api.Set{8, 9}, api.Set{1, 2}},
	{api.Set{1, 3, 5}, api.Set{3, 5, 7}},
	{api.Set{1, 3, 5}, api.Set{5}},
	{upTo(15), api.Set{16}},
	{upTo(16), upTo(16)},
	{upTo(16), api.Set{5}},
	{upTo(16), api.Set{17}}, // refused by With and Both
	{api.Set{2, 1}, api.Set{1}},
	{api.Set{1}, api.Set{4, 4}},
	{upTo(17), upTo(17)},
}

// calls tells each call's answers of a and b, the sets ahead of the others.
func calls(a, b api.Set) ([]api.Set, []api.Errno, []bool) {
	n := 4
	if len(b) > 0 {
		n = b[0]
	}
	in, inCode := sets.With(a, n)
	out, outCode := sets.Without(a, n)
	all, allCode := sets.Both(a, b)
	few, fewCode := sets.Common(a, b)
	return []api.Set{in, out, all, few}, []api.Errno{inCode, outCode, allCode, fewCode}, []bool{sets.Is(a), sets.Has(a, n), sets.Same(a, b)}
}

func TestGivenIsNotWritten(t *testing.T) { // R2: nor its spare room, and that isn't read
	for _, p := range pairs {
		a, b := roomy(p.a), roomy(p.b)
		got, codes, truths := calls(a, b)
		want, wantCodes, wantTruths := calls(p.a, p.b)
		if !untouched(a, p.a) || !untouched(b, p.b) {
			t.Errorf("of %v and %v: written into what was given: %v, %v", p.a, p.b, a[:cap(a)], b[:cap(b)])
		}
		if !slices.EqualFunc(got, want, slices.Equal) || !slices.Equal(codes, wantCodes) || !slices.Equal(truths, wantTruths) {
			t.Errorf("of %v and %v: what is answered hangs on the spare room: %v, %v, %v", p.a, p.b, got, codes, truths)
		}
	}
}

// spoil writes into all of s's memory.
func spoil(s api.Set) {
	s = s[:cap(s)]
	for i := range s {
		s[i] = -99
	}
}

func TestAnswersAreNewMemory(t *testing.T) { // R2: also where the answer is the set that was handed in
	for _, p := range pairs {
		a, b := roomy(p.a), roomy(p.b)
		got, _, _ := calls(a, b)
		want, _, _ := calls(p.a, p.b)
		spoil(a)
		spoil(b)
		if !slices.EqualFunc(got, want, slices.Equal) {
			t.Errorf("of %v and %v: an answer shares memory with what was given: %v", p.a, p.b, got)
		}
		a, b = roomy(p.a), roomy(p.b)
		got, _, _ = calls(a, b)
		for i, s := range got {
			spoil(s)
			for j := i + 1; j < len(got); j++ {
				if !slices.Equal(got[j], want[j]) {
					t.Errorf("of %v and %v: two answers share memory: %v", p.a, p.b, got[j])
				}
			}
		}
		if !untouched(a, p.a) || !untouched(b, p.b) {
			t.Errorf("of %v and %v: an answer is memory that was given", p.a, p.b)
		}
	}
}

func TestOneRowAsBoth(t *testing.T) { // R2: where both are the same memory
	s := roomy(upTo(16))
	all, code := sets.Both(s, s)
	answers(t, "Both of a row and itself", all, code, upTo(16), api.OK)
	few, code := sets.Common(s, s)
	answers(t, "Common of a row and itself", few, code, upTo(16), api.OK)
	all, code = sets.Both(s[:9], s[5:])
	answers(t, "Both of parts of a row", all, code, upTo(16), api.OK)
	few, code = sets.Common(s[:9], s[5:])
	answers(t, "Common of parts of a row", few, code, every(6, 1, 4), api.OK)
	if !sets.Same(s, s) || !untouched(s, upTo(16)) {
		t.Errorf("of a row and itself: %v", s[:cap(s)])
	}
}

func TestOneCallKnowsNothingOfAnother(t *testing.T) { // R2: nor does one that was refused leave anything behind
	for range 3 {
		with(t, api.Set{5, 1}, 3, nil, api.ErrArg)
		with(t, upTo(16), 17, nil, api.ErrLimit)
		with(t, api.Set{1, 5}, 3, api.Set{1, 3, 5}, api.OK)
		both(t, upTo(16), api.Set{17}, nil, api.ErrLimit)
		both(t, api.Set{1}, api.Set{2}, api.Set{1, 2}, api.OK)
		common(t, api.Set{1}, api.Set{2}, nil, api.OK)
	}
}
