package quorum_test

import (
	"math"
	"slices"
	"testing"

	"folkmoot/api"
	"folkmoot/quorum"
	"folkmoot/sets"
)

const (
	low  = math.MinInt
	high = math.MaxInt
)

// upTo answers 1 to n.
func upTo(n int) api.Set {
	s := make(api.Set, n)
	for i := range s {
		s[i] = i + 1
	}
	return s
}

// wide are numbers of all sizes, rising: a voter may be any of them.
var wide = api.Set{low, low + 1, math.MinInt32 - 1, -1000000001, -1000000000, -2, -1, 0, 1, 16, 17, 1000000000, 1000000001, math.MaxUint32, high - 1, high}

// some answers those of s whose bits are in mask.
func some(s api.Set, mask int) api.Set {
	var part api.Set
	for i, n := range s {
		if mask&(1<<i) != 0 {
			part = append(part, n)
		}
	}
	return part
}

// turned answers s from its end to its beginning.
func turned(s api.Set) api.Set {
	s = slices.Clone(s)
	slices.Reverse(s)
	return s
}

// joined answers the rows' numbers, one row behind the other.
func joined(rows ...api.Set) api.Set { return slices.Concat(rows...) }

func majority(t *testing.T, n, want int) {
	t.Helper()
	if got := quorum.Majority(n); got != want {
		t.Errorf("Majority(%d): %d; want %d", n, got, want)
	}
}

func reached(t *testing.T, voters, yes api.Set, want bool) {
	t.Helper()
	if quorum.Reached(voters, yes) != want {
		t.Errorf("Reached(%v, %v): %t", voters, yes, !want)
	}
}

func sure(t *testing.T, have []int, want int) {
	t.Helper()
	if got, code := quorum.Sure(have); got != want || code != api.OK {
		t.Errorf("Sure(%v): %d, %d; want %d, %d", have, got, code, want, api.OK)
	}
}

func TestExamples(t *testing.T) { // P5.1 to P5.3
	majority(t, 0, 0)
	majority(t, 1, 1)
	majority(t, 4, 3)
	majority(t, 5, 3)
	reached(t, api.Set{1, 2, 3}, api.Set{2, 3}, true)
	reached(t, api.Set{1, 2, 3, 4}, api.Set{1, 2}, false)
	reached(t, nil, nil, false)
	reached(t, api.Set{1, 2, 3}, api.Set{3, 1}, true)
	sure(t, []int{5, 1, 3}, 3)
	sure(t, []int{5, 1, 3, 3}, 3)
	if n, code := quorum.Sure(nil); n != 0 || code != api.ErrArg {
		t.Errorf("Sure of none: %d, %d", n, code)
	}
}

func TestMajority(t *testing.T) { // P5.1
	for _, c := range []struct{ n, want int }{
		{2, 2},
		{3, 2},
		{6, 4},
		{7, 4},
		{15, 8},
		{16, 9},
		{17, 9},
		{1000000000, 500000001},
		{1000000001, 500000001},
		{math.MaxInt32 - 1, 1 << 30},
		{math.MaxInt32, 1 << 30},
		{math.MaxInt32 + 1, 1<<30 + 1},
		{high - 2, 1<<62 - 1},
		{high - 1, 1 << 62},
		{high, 1 << 62},
	} {
		majority(t, c.n, c.want)
	}
	for n := 1; n <= 1000; n++ { // the least that is more than half
		if m := quorum.Majority(n); 2*m <= n || 2*(m-1) > n {
			t.Errorf("Majority(%d): %d", n, m)
		}
	}
}

func TestMajorityOfNone(t *testing.T) { // P5.1
	for _, n := range []int{-1, -2, -3, -16, -1000000001, math.MinInt32, low + 2, low + 1, low} {
		majority(t, n, 0)
	}
}

func TestReachedOfNoSet(t *testing.T) { // P5.2: whoever is in yes
	wrong := map[string]api.Set{
		"falling":                {2, 1},
		"falling at its end":     {1, 2, 4, 3},
		"falling at its start":   {2, 1, 3, 4},
		"falling in the midst":   {1, 3, 2, 4},
		"one twice":              {1, 1},
		"the first two equal":    {1, 1, 2, 3},
		"the midst ones equal":   {1, 2, 2, 3},
		"the last two equal":     {1, 2, 3, 3},
		"noughts":                {0, 0, 0},
		"the least twice":        {low, low},
		"the greatest twice":     {high, high},
		"from greatest to least": {high, low},
		"17":                     upTo(17),
		"17 around 0":            {-8, -7, -6, -5, -4, -3, -2, -1, 0, 1, 2, 3, 4, 5, 6, 7, 8},
		"18":                     upTo(18),
		"16, the last two equal": append(upTo(15), 15),
		"100000":                 upTo(100000),
	}
	for name, voters := range wrong {
		for _, yes := range []api.Set{nil, voters, turned(voters), upTo(16), wide, joined(voters, upTo(20))} {
			if quorum.Reached(voters, yes) {
				t.Errorf("Reached of %s, %d numbers: true", name, len(yes))
			}
		}
	}
}

func TestReachedAtEachPlace(t *testing.T) { // P5.2: two neighbours that don't rise, wherever they stand
	for n := 2; n <= 16; n++ {
		for i := range n - 1 {
			for _, wrong := range []int{i + 1, i, low} {
				voters := upTo(n)
				voters[i+1] = wrong
				reached(t, voters, joined(voters, upTo(16)), false)
			}
		}
	}
}

func TestReachedOfNobody(t *testing.T) { // P5.2
	for _, yes := range []api.Set{nil, {}, {0}, {1}, {1, 2, 3}, {2, 1}, {1, 1}, upTo(17), wide} {
		reached(t, nil, yes, false)
		reached(t, api.Set{}, yes, false)
	}
}

func TestReachedByNobody(t *testing.T) { // P5.2: none said yes, or none that is a voter
	for n := 1; n <= 16; n++ {
		for _, yes := range []api.Set{nil, {}, {0}, {-1}, {17}, {low, -1, 0, 17, high}, {18, 17, 17}} {
			reached(t, upTo(n), yes, false)
		}
	}
}

func TestReached(t *testing.T) { // P5.2
	for _, c := range []struct {
		voters, yes api.Set
		want        bool
	}{
		{api.Set{4}, api.Set{4}, true},
		{api.Set{4}, api.Set{5}, false},
		{api.Set{0}, api.Set{0}, true},
		{api.Set{-1}, api.Set{1}, false},
		{api.Set{low}, api.Set{low}, true},
		{api.Set{high}, api.Set{high}, true},
		{api.Set{high}, api.Set{low}, false},
		{api.Set{1, 2}, api.Set{1}, false},
		{api.Set{1, 2}, api.Set{2}, false},
		{api.Set{1, 2}, api.Set{2, 1}, true},
		{api.Set{1, 2, 3}, api.Set{1}, false},
		{api.Set{1, 2, 3}, api.Set{1, 2, 3}, true},
		{api.Set{low, 0, high}, api.Set{low, high}, true},
		{api.Set{low, 0, high}, api.Set{high, 1}, false},
		// of yes that has numbers twice
		{api.Set{1, 2}, api.Set{1, 1}, false},
		{api.Set{1, 2, 3}, api.Set{2, 2}, false},
		{api.Set{1, 2, 3}, api.Set{3, 3, 3, 3}, false},
		{api.Set{1, 2, 3}, api.Set{3, 2, 3}, true},
		{api.Set{1, 2, 3, 4, 5}, api.Set{1, 2, 1, 2}, false},
		// of yes that has others than the voters
		{api.Set{1, 2, 3}, api.Set{1, 4}, false},
		{api.Set{1, 2, 3}, api.Set{0, 4, 5, 6}, false},
		{api.Set{1, 2, 3}, api.Set{3, 4, 5, 6, 1}, true},
		{api.Set{1, 2, 3}, api.Set{-1, -2, 3}, false},
		{api.Set{2, 4, 6}, api.Set{1, 2, 3, 5, 7}, false},
		{api.Set{2, 4, 6}, api.Set{1, 2, 3, 4, 5}, true},
		// of yes that is no set for its length
		{api.Set{1, 17}, upTo(17), true},
		{api.Set{0, 1, 18}, upTo(17), false},
		{api.Set{99998, 99999, 100000}, upTo(100000), true},
		{api.Set{99999, 100001, 100002}, upTo(100000), false},
		{upTo(16), upTo(100000), true},
		{upTo(16), turned(upTo(100000)), true},
	} {
		reached(t, c.voters, c.yes, c.want)
	}
}

// crowds are rows that have just those of yes that are voters: as a set, as no set, with numbers twice, and with others beside them.
func crowds(yes api.Set) []api.Set {
	others := api.Set{low + 7, -77, 100, 101, 102, 103, 104, 105, 106, 107, 108, high - 7}
	return []api.Set{yes, turned(yes), joined(yes, yes), joined(yes, turned(yes), yes), joined(others, yes), joined(yes, others, others)}
}

func TestReachedByEachCrowd(t *testing.T) { // P5.2: of sets of every size, all parts of the small ones
	for n := 1; n <= 9; n++ {
		for _, voters := range []api.Set{upTo(n), wide[:n], wide[16-n:]} {
			for mask := range 1 << n {
				part := some(voters, mask)
				for _, yes := range crowds(part) {
					reached(t, voters, yes, 2*len(part) > n)
				}
			}
		}
	}
}

func TestReachedByJustEnough(t *testing.T) { // P5.2: and by one fewer, whichever they are
	for n := 1; n <= 16; n++ {
		enough := n/2 + 1
		for _, voters := range []api.Set{upTo(n), wide[:n], wide[16-n:]} {
			around := joined(voters, voters)
			for from := range n {
				for _, yes := range crowds(around[from : from+enough]) {
					reached(t, voters, yes, true)
				}
				for _, yes := range crowds(around[from : from+enough-1]) {
					reached(t, voters, yes, false)
				}
			}
		}
	}
}

func TestReachedByEachPartOfSixteen(t *testing.T) { // P5.2
	voters := upTo(16)
	for mask := range 1 << 16 {
		yes := some(voters, mask)
		reached(t, voters, yes, len(yes) >= 9)
	}
}

func TestSureOfNone(t *testing.T) { // P5.3
	for _, have := range [][]int{nil, {}, make([]int, 0, 9), []int{1, 2, 3}[:0]} {
		if n, code := quorum.Sure(have); n != 0 || code != api.ErrArg {
			t.Errorf("Sure of none: %d, %d", n, code)
		}
	}
}

func TestSure(t *testing.T) { // P5.3
	for _, c := range []struct {
		have []int
		want int
	}{
		{[]int{0}, 0},
		{[]int{7}, 7},
		{[]int{-7}, -7},
		{[]int{low}, low},
		{[]int{high}, high},
		{[]int{1, 2}, 1},
		{[]int{2, 1}, 1},
		{[]int{low, high}, low},
		{[]int{high, low}, low},
		{[]int{-1, 0}, -1},
		{[]int{1, 2, 3, 4}, 2},
		{[]int{4, 3, 2, 1, 5}, 3},
		{[]int{-5, -1, -3}, -3},
		{[]int{-5, -1, -3, -4}, -4},
		{[]int{-2, 2, 0}, 0},
		{[]int{0, 0, 0}, 0},
		{[]int{4, 4, 4, 4}, 4},
		{[]int{low, low, low}, low},
		{[]int{high, high}, high},
		{[]int{9, 9, 1, 1}, 1},
		{[]int{9, 9, 9, 1, 1}, 9},
		{[]int{9, 9, 1, 1, 1}, 1},
		{[]int{high, low, 0}, 0},
		{[]int{high, low, high}, high},
		{[]int{low, high, low}, low},
		{[]int{high, high - 1, low, low + 1}, low + 1},
		{[]int{100, 0, 0, 0, 0}, 0},
		{[]int{0, 100, 100, 100, 100}, 100},
		{[]int{10, 9, 100}, 10}, // by numbers, not by letters
	} {
		sure(t, c.have, c.want)
	}
}

func TestSureOfMany(t *testing.T) { // P5.3: of 1 to n, the one with just a majority from it on; more than a set may have, too
	for n := 1; n <= 200; n++ {
		want := (n + 1) / 2
		sure(t, upTo(n), want)
		sure(t, turned(upTo(n)), want)
	}
	all := joined(upTo(50000), turned(upTo(100000)), upTo(50000)) // of 200000, 50000 are above 50000, and 50001 from 33334 to 50000
	if n, code := quorum.Sure(all); n != 33334 || code != api.OK {
		t.Errorf("Sure of 200000 numbers: %d, %d", n, code)
	}
}

// enough tells whether a majority of have are n or more.
func enough(have []int, n int) bool {
	many := 0
	for _, h := range have {
		if h >= n {
			many++
		}
	}
	return 2*many > len(have)
}

// five are numbers of which the tests below take all rows that there are.
var five = []int{low, -1, 0, 5, high}

// rowsOf calls see with each row of n numbers of five, in every order, the same one as often as it likes.
func rowsOf(n int, see func([]int)) {
	row := make([]int, n)
	var lay func(at int)
	lay = func(at int) {
		if at == n {
			see(row)
			return
		}
		for _, number := range five {
			row[at] = number
			lay(at + 1)
		}
	}
	lay(0)
}

func TestSureOfEachRow(t *testing.T) { // P5.3, P5.4: so many are it or more, and no greater one has as many; in every order
	seen := 0
	for n := 1; n <= 6; n++ {
		rowsOf(n, func(have []int) {
			seen++
			got, code := quorum.Sure(have)
			if code != api.OK || !enough(have, got) || got != high && enough(have, got+1) {
				t.Errorf("Sure(%v): %d, %d", have, got, code)
			}
		})
	}
	if seen != 5+25+125+625+3125+15625 {
		t.Errorf("%d rows", seen)
	}
}

// orders calls see with all orders of numbers.
func orders(numbers []int, at int, see func([]int)) {
	if at == len(numbers) {
		see(numbers)
		return
	}
	for i := at; i < len(numbers); i++ {
		numbers[at], numbers[i] = numbers[i], numbers[at]
		orders(numbers, at+1, see)
		numbers[at], numbers[i] = numbers[i], numbers[at]
	}
}

func TestSureInEveryOrder(t *testing.T) { // P5.4
	for _, c := range []struct {
		have []int
		want int
	}{
		{[]int{low, -9, -1, 0, 3, 8, high}, 0},
		{[]int{low, -9, -1, 0, 3, high}, -1},
		{[]int{1, 2, 2, 2, 3, 4, 5}, 2},
		{[]int{1, 1, 2, 4, 4, 4}, 2},
		{[]int{-6, -5, -4, -3, -2, -1}, -4},
		{[]int{low, low, low, high, high, high}, low},
		{[]int{low, low, low, high, high, high, high}, high},
	} {
		seen := 0
		orders(c.have, 0, func(have []int) {
			seen++
			sure(t, have, c.want)
		})
		if seen != 720 && seen != 5040 {
			t.Errorf("%d orders of %v", seen, c.have)
		}
	}
}

func TestSureDoesNotFall(t *testing.T) { // P5.4: when any number grows, by much or by one
	for n := 1; n <= 4; n++ {
		rowsOf(n, func(have []int) {
			was, _ := quorum.Sure(have)
			for i := range have {
				for _, grown := range append(slices.Clone(five), have[i]+1) {
					if grown <= have[i] {
						continue
					}
					more := slices.Clone(have)
					more[i] = grown
					if is, code := quorum.Sure(more); is < was || code != api.OK {
						t.Errorf("Sure(%v): %d, Sure(%v): %d", have, was, more, is)
					}
				}
			}
		})
	}
}

func TestSureGrowsWithAMajority(t *testing.T) { // P5.4: what a majority has comes to be sure, what fewer have does not
	for n := 1; n <= 16; n++ {
		have := make([]int, n)
		for i := range n {
			have[i] = 7
			want := 0
			if 2*(i+1) > n {
				want = 7
			}
			sure(t, have, want)
		}
	}
}

// majorities are all parts of voters by which Reached is so.
func majorities(voters api.Set) []api.Set {
	var all []api.Set
	for mask := range 1 << len(voters) {
		if yes := some(voters, mask); quorum.Reached(voters, yes) {
			all = append(all, yes)
		}
	}
	return all
}

// meet tells whether each of some has a number in common with each of others.
func meet(t *testing.T, some, others []api.Set) {
	t.Helper()
	if len(some) == 0 || len(others) == 0 {
		t.Error("no majority")
	}
	for _, a := range some {
		for _, b := range others {
			if c, code := sets.Common(a, b); len(c) == 0 || code != api.OK {
				t.Errorf("%v and %v have none in common", a, b)
			}
		}
	}
}

func TestMajoritiesMeet(t *testing.T) { // P5.4: those of one set
	for n := 1; n <= 8; n++ {
		all := majorities(wide[16-n:])
		meet(t, all, all)
	}
}

func TestMajoritiesOfNeighboursMeet(t *testing.T) { // P5.4: those of two sets, of which one has one number more
	for n := 2; n <= 8; n++ {
		more := majorities(upTo(n))
		for gone := 1; gone <= n; gone++ {
			few, code := sets.Without(upTo(n), gone)
			if code != api.OK {
				t.Fatalf("Without: %d", code)
			}
			meet(t, more, majorities(few))
		}
	}
}

func TestMajoritiesAreTooManyToMiss(t *testing.T) { // P5.4: more than all in two of them, of any number
	for n := 1; n <= 1000; n++ {
		m, next := quorum.Majority(n), quorum.Majority(n+1)
		if m+m <= n || m+next <= n+1 {
			t.Errorf("majorities of %d and of %d: %d and %d", n, n+1, m, next)
		}
	}
}

// roomy answers s with spare room behind it, in which something stands.
func roomy(s []int) []int {
	return append(slices.Clone(s), upTo(40)...)[:len(s)]
}

// untouched tells whether s is still what roomy made of was.
func untouched(s, was []int) bool {
	return slices.Equal(s, was) && slices.Equal(s[len(s):len(s)+40], upTo(40))
}

func TestGivenIsNotWritten(t *testing.T) { // R2: nor its spare room, and that isn't read
	for _, c := range []struct{ voters, yes api.Set }{
		{nil, nil},
		{nil, api.Set{1}},
		{api.Set{1}, nil},
		{api.Set{1, 2, 3}, api.Set{3, 1}},
		{api.Set{1, 2, 3}, api.Set{3, 3}},
		{api.Set{1, 2, 3}, api.Set{3, 9, 8}},
		{api.Set{3, 2, 1}, api.Set{3, 2, 1}},
		{upTo(16), turned(upTo(16))},
		{upTo(17), upTo(17)},
	} {
		voters, yes := roomy(c.voters), roomy(c.yes)
		reached(t, voters, yes, quorum.Reached(c.voters, c.yes))
		if !untouched(voters, c.voters) || !untouched(yes, c.yes) {
			t.Errorf("Reached(%v, %v) wrote into what was given: %v, %v", c.voters, c.yes, voters, yes)
		}
	}
	for _, have := range [][]int{nil, {4}, {1, 2, 3}, {3, 2, 1}, {5, 1, 3}, {2, 2, 1, 2}, {high, 0, low}, upTo(100), turned(upTo(100))} {
		given := roomy(have)
		got, code := quorum.Sure(given)
		if want, wantCode := quorum.Sure(slices.Clone(have)); got != want || code != wantCode {
			t.Errorf("Sure(%v) hangs on the spare room: %d, %d", have, got, code)
		}
		if !untouched(given, have) {
			t.Errorf("Sure(%v) wrote into what was given: %v", have, given[:cap(given)])
		}
	}
}

func TestOneRowAsBoth(t *testing.T) { // R2: where both are the same memory
	s := roomy(upTo(16))
	reached(t, s, s, true)
	reached(t, s, s[8:], false)
	reached(t, s, s[7:], true)
	reached(t, s[:3], s[1:], true)
	reached(t, s[:3], s[2:], false)
	if !untouched(s, upTo(16)) {
		t.Errorf("Reached of a row and itself wrote into it: %v", s)
	}
}

func TestOneCallKnowsNothingOfAnother(t *testing.T) { // R2: nor is what was given kept
	have, voters, yes := []int{5, 1, 3}, api.Set{1, 2, 3}, api.Set{1, 2}
	for range 3 {
		sure(t, have, 3)
		reached(t, voters, yes, true)
		have[0], voters[2], yes[0] = 0, 2, 9
		if n, code := quorum.Sure(nil); n != 0 || code != api.ErrArg {
			t.Errorf("Sure of none: %d, %d", n, code)
		}
		sure(t, have, 1)
		reached(t, voters, yes, false)
		majority(t, low, 0)
		majority(t, 4, 3)
		have[0], voters[2], yes[0] = 5, 3, 1
	}
}
