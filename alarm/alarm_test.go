package alarm_test

import (
	"math"
	"math/rand"
	"slices"
	"sort"
	"testing"

	"folkmoot/alarm"
	"folkmoot/api"
)

const (
	low  = math.MinInt
	high = math.MaxInt
)

// wide are ids and times of all sizes.
var wide = []int{low, low + 1, math.MinInt32 - 1, -1000000001, -2, -1, 0, 1, 2, 1000000000, 1000000001, math.MaxUint32, high - 1, high}

func set(t *testing.T, c *alarm.Clock, id, at int) {
	t.Helper()
	if code := c.Set(id, at); code != api.OK {
		t.Errorf("Set(%d, %d): %d", id, at, code)
	}
}

func clearing(t *testing.T, c *alarm.Clock, id int, want api.Errno) {
	t.Helper()
	if code := c.Clear(id); code != want {
		t.Errorf("Clear(%d): %d; want %d", id, code, want)
	}
}

func next(t *testing.T, c *alarm.Clock, id, at int) {
	t.Helper()
	if i, a, code := c.Next(); i != id || a != at || code != api.OK {
		t.Errorf("Next: %d, %d, %d; want %d, %d, %d", i, a, code, id, at, api.OK)
	}
}

func nothing(t *testing.T, c *alarm.Clock) {
	t.Helper()
	if i, a, code := c.Next(); i != 0 || a != 0 || code != api.ErrAlarmNone {
		t.Errorf("Next: %d, %d, %d; want 0, 0, %d", i, a, code, api.ErrAlarmNone)
	}
	length(t, c, 0)
}

func due(t *testing.T, c *alarm.Clock, now int, want ...int) {
	t.Helper()
	if ids := c.Due(now); !slices.Equal(ids, want) {
		t.Errorf("Due(%d): %v; want %v", now, ids, want)
	}
}

func length(t *testing.T, c *alarm.Clock, want int) {
	t.Helper()
	if n := c.Len(); n != want {
		t.Errorf("Len: %d; want %d", n, want)
	}
}

// clockOf answers a clock on which the ids are set for at, in their order.
func clockOf(at int, ids ...int) *alarm.Clock {
	c := alarm.New()
	for _, id := range ids {
		c.Set(id, at)
	}
	return c
}

func TestExamples(t *testing.T) { // P6.1 and P6.2
	c := alarm.New()
	set(t, c, 3, 10)
	set(t, c, 1, 10)
	set(t, c, 2, 5)
	next(t, c, 2, 5)
	due(t, c, 9, 2)
	due(t, c, 10, 1, 3)
	length(t, c, 0)

	c = alarm.New()
	set(t, c, 1, 5)
	set(t, c, 1, 8)
	due(t, c, 7)
	clearing(t, c, 1, api.OK)
	clearing(t, c, 1, api.ErrAlarmNone)
	nothing(t, c)
}

func TestNew(t *testing.T) { // P6.1: nothing is set on a new clock
	c := alarm.New()
	if c == nil {
		t.Fatal("New answers no clock")
	}
	nothing(t, c)
	for _, n := range wide {
		due(t, c, n)
		clearing(t, c, n, api.ErrAlarmNone)
		nothing(t, c)
	}
	set(t, c, 0, 0)
	next(t, c, 0, 0)
	length(t, c, 1)
}

func TestSetAgain(t *testing.T) { // P6.1: for later, for earlier, for the same
	for _, at := range []int{low, 1, 9, 10, 11, 15, 19, 20, 21, 29, 30, 31, 99, high} {
		for id := 1; id <= 3; id++ {
			c := alarm.New()
			times := []int{0, 10, 20, 30}
			for i := 1; i <= 3; i++ {
				set(t, c, i, times[i])
			}
			set(t, c, id, at)
			length(t, c, 3)
			times[id] = at
			ids := []int{1, 2, 3}
			sort.SliceStable(ids, func(i, j int) bool { return times[ids[i]] < times[ids[j]] })
			next(t, c, ids[0], times[ids[0]])
			for _, i := range ids {
				next(t, c, i, times[i])
				clearing(t, c, i, api.OK)
			}
			nothing(t, c)
		}
	}
}

func TestOldTimeIsForgotten(t *testing.T) { // P6.1 and P6.3: it is set no more for what it was set for ahead
	c := alarm.New()
	set(t, c, 7, 5)
	set(t, c, 7, 50)
	due(t, c, 49)
	length(t, c, 1)
	due(t, c, 50, 7)
	due(t, c, 50)

	set(t, c, 7, 50)
	set(t, c, 7, 5)
	due(t, c, 5, 7)
	due(t, c, 50)
	length(t, c, 0)

	set(t, c, 7, 5)
	set(t, c, 7, 5)
	length(t, c, 1)
	due(t, c, 5, 7)
	due(t, c, 5)
	nothing(t, c)
}

func TestClear(t *testing.T) { // P6.1
	c := alarm.New()
	clearing(t, c, 1, api.ErrAlarmNone)
	set(t, c, 1, 5)
	set(t, c, 2, 6)
	clearing(t, c, 3, api.ErrAlarmNone)
	length(t, c, 2)
	next(t, c, 1, 5)
	clearing(t, c, 1, api.OK)
	length(t, c, 1)
	next(t, c, 2, 6)
	clearing(t, c, 1, api.ErrAlarmNone)
	length(t, c, 1)
	set(t, c, 1, 9)
	length(t, c, 2)
	next(t, c, 2, 6)
	due(t, c, 9, 2, 1)
	clearing(t, c, 1, api.ErrAlarmNone) // what Due told is not set any more
	clearing(t, c, 2, api.ErrAlarmNone)
	nothing(t, c)
}

func TestClearEveryPlace(t *testing.T) { // P6.1: each one of many is cleared, and the others stand as they stood
	for gone := range 40 {
		c := alarm.New()
		var want []int
		for i := range 40 {
			id := i * 17 % 40
			set(t, c, id, id/3)
		}
		for i := range 40 {
			if i != gone {
				want = append(want, i)
			}
		}
		clearing(t, c, gone, api.OK)
		clearing(t, c, gone, api.ErrAlarmNone)
		length(t, c, 39)
		due(t, c, 40, want...)
	}
}

func TestNextIsTheLeastId(t *testing.T) { // P6.2: of several set for the least time, in whatever order they were set
	for _, ids := range [][]int{{1, 2, 3}, {1, 3, 2}, {2, 1, 3}, {2, 3, 1}, {3, 1, 2}, {3, 2, 1}} {
		c := clockOf(10, ids...)
		set(t, c, 0, 11)
		next(t, c, 1, 10)
		next(t, c, 1, 10) // it is asked, not taken
		length(t, c, 4)
		clearing(t, c, 1, api.OK)
		next(t, c, 2, 10)
		clearing(t, c, 2, api.OK)
		next(t, c, 3, 10)
		due(t, c, 10, 3)
		next(t, c, 0, 11)
	}
	next(t, clockOf(-5, 3, 0, -2, 9, low, high), low, -5)
	next(t, clockOf(-5, high, -1, -2), -2, -5)
	next(t, clockOf(high, high, high-1), high-1, high)
}

func TestNextIsByTime(t *testing.T) { // P6.2: the time goes ahead of the id
	c := alarm.New()
	set(t, c, low, 2)
	set(t, c, high, 1)
	next(t, c, high, 1)
	set(t, c, 0, 0)
	next(t, c, 0, 0)
	set(t, c, 5, -1)
	next(t, c, 5, -1)
	due(t, c, 2, 5, 0, high, low)
}

func TestDue(t *testing.T) { // P6.2: of a time at which none is due, some are, all are; twice
	c := alarm.New()
	set(t, c, 4, 30)
	set(t, c, 9, 10)
	set(t, c, 2, 20)
	set(t, c, 1, 20)
	due(t, c, 9)
	length(t, c, 4)
	next(t, c, 9, 10)
	due(t, c, 20, 9, 1, 2)
	length(t, c, 1)
	due(t, c, 20)
	length(t, c, 1)
	next(t, c, 4, 30)
	due(t, c, 5) // time may go back: the clock keeps no time of its own
	due(t, c, 29)
	due(t, c, 30, 4)
	due(t, c, 30)
	due(t, c, high)
	nothing(t, c)

	set(t, c, 9, 10) // behind a later Due
	due(t, c, 9)
	due(t, c, 10, 9)
	set(t, c, 1, 7)
	set(t, c, 2, 6)
	due(t, c, high, 2, 1)
	nothing(t, c)
}

func TestWide(t *testing.T) { // P6.1 and P6.2: ids and times are any numbers
	c := alarm.New()
	for i := range wide {
		id := wide[len(wide)-1-i]
		set(t, c, id, id)
	}
	length(t, c, len(wide))
	for i, n := range wide {
		next(t, c, n, n)
		if n != low {
			due(t, c, n-1)
		}
		due(t, c, n, n)
		clearing(t, c, n, api.ErrAlarmNone)
		length(t, c, len(wide)-1-i)
	}
	nothing(t, c)

	for _, at := range wide {
		c := clockOf(at, wide...)
		next(t, c, low, at)
		if at != low {
			due(t, c, at-1)
		}
		due(t, c, at, wide...)
		nothing(t, c)
	}
}

func TestOnceInOrder(t *testing.T) { // P6.3: once, not ahead of its time, in the order of times
	draw := rand.New(rand.NewSource(6))
	for range 50 {
		c := alarm.New()
		at := map[int]int{}
		for range 200 {
			id := draw.Intn(120) - 60
			at[id] = draw.Intn(60) - 30
			set(t, c, id, at[id])
		}
		came := map[int]int{}
		last := low
		for now := -35; now <= 35; now += 1 + draw.Intn(4) {
			for _, id := range c.Due(now) {
				came[id]++
				if at[id] > now || at[id] < last {
					t.Fatalf("%d, set for %d, came at %d behind one of %d", id, at[id], now, last)
				}
				last = at[id]
			}
		}
		for id := range at {
			if came[id] != 1 {
				t.Fatalf("%d came %d times", id, came[id])
			}
		}
		nothing(t, c)
	}
}

// plain is the clock that the promises tell of, as a list in order.
type plain [][2]int // at and id

func (p *plain) clear(id int) api.Errno {
	was := len(*p)
	*p = slices.DeleteFunc(*p, func(m [2]int) bool { return m[1] == id })
	if len(*p) == was {
		return api.ErrAlarmNone
	}
	return api.OK
}

func (p *plain) set(id, at int) {
	p.clear(id)
	*p = append(*p, [2]int{at, id})
	sort.Slice(*p, func(i, j int) bool {
		a, b := (*p)[i], (*p)[j]
		return a[0] < b[0] || a[0] == b[0] && a[1] < b[1]
	})
}

func (p *plain) due(now int) []int {
	var ids []int
	for len(*p) > 0 && (*p)[0][0] <= now {
		ids = append(ids, (*p)[0][1])
		*p = (*p)[1:]
	}
	return ids
}

// same holds the clock's Len and Next against the list's.
func (p plain) same(t *testing.T, c *alarm.Clock) {
	t.Helper()
	if len(p) == 0 {
		nothing(t, c)
		return
	}
	length(t, c, len(p))
	next(t, c, p[0][1], p[0][0])
}

func TestAgainstAList(t *testing.T) { // P6.1 to P6.3: many ids, set and cleared in many orders
	for seed := range 60 {
		draw := rand.New(rand.NewSource(int64(seed)))
		ids, times := 1+draw.Intn(80), 1+draw.Intn(100)
		c, p := alarm.New(), plain{}
		for range 1000 {
			id, at := draw.Intn(ids)-ids/3, draw.Intn(times)-times/3
			switch k := draw.Intn(20); {
			case k < 10:
				set(t, c, id, at)
				p.set(id, at)
			case k < 19:
				clearing(t, c, id, p.clear(id))
			default:
				now := at - draw.Intn(times)
				due(t, c, now, p.due(now)...)
			}
			p.same(t, c)
			if t.Failed() {
				t.Fatalf("seed %d", seed)
			}
		}
		due(t, c, high, p.due(high)...)
		nothing(t, c)
	}
}

func TestMany(t *testing.T) { // P6.1 to P6.3, and R1: a great many end
	const n = 200000
	c := alarm.New()
	for i := range n {
		c.Set(i*7919%n, -i)
	}
	length(t, c, n)
	next(t, c, (n-1)*7919%n, 1-n)
	for id := 1; id < n; id += 2 {
		c.Clear(id)
	}
	length(t, c, n/2)
	for id := 0; id < n; id += 2 {
		c.Set(id, id/4)
	}
	length(t, c, n/2)
	ids := c.Due(n)
	for i, id := range ids {
		if id != 2*i {
			t.Fatalf("the place %d: %d", i, id)
		}
	}
	if len(ids) != n/2 {
		t.Fatalf("%d came", len(ids))
	}
	nothing(t, c)
}

func TestDueIsNewMemory(t *testing.T) { // R2: what was handed out stays, and a change of it changes no clock
	c := clockOf(5, 1, 2, 3)
	set(t, c, 4, 6)
	set(t, c, 5, 7)
	one := c.Due(5)
	two := c.Due(6)
	set(t, c, 8, 1)
	set(t, c, 9, 0)
	three := c.Due(1)
	clearing(t, c, 5, api.OK)
	set(t, c, 6, 2)
	set(t, c, 7, 3)
	for _, was := range []struct{ have, want []int }{{one, []int{1, 2, 3}}, {two, []int{4}}, {three, []int{9, 8}}} {
		if !slices.Equal(was.have, was.want) {
			t.Errorf("what was handed out is %v; it was %v", was.have, was.want)
		}
	}
	for _, ids := range [][]int{one, two, three} {
		ids = ids[:cap(ids)]
		for i := range ids {
			ids[i] = -77
		}
	}
	length(t, c, 2)
	next(t, c, 6, 2)
	clearing(t, c, -77, api.ErrAlarmNone)
	due(t, c, 9, 6, 7)
	nothing(t, c)
}

func TestTwoClocks(t *testing.T) { // R2: clocks know nothing of one another
	a, b := alarm.New(), alarm.New()
	set(t, a, 1, 5)
	nothing(t, b)
	set(t, b, 1, 3)
	set(t, b, 2, 4)
	next(t, a, 1, 5)
	length(t, a, 1)
	due(t, a, 4)
	clearing(t, a, 2, api.ErrAlarmNone)
	clearing(t, a, 1, api.OK)
	nothing(t, a)
	length(t, b, 2)
	set(t, a, 2, 9)
	due(t, b, 9, 1, 2)
	nothing(t, b)
	next(t, a, 2, 9)
}

func TestNoClock(t *testing.T) { // R3
	var c *alarm.Clock
	for _, n := range wide {
		if code := c.Set(n, n); code != api.ErrNil {
			t.Errorf("Set: %d", code)
		}
		clearing(t, c, n, api.ErrNil)
		due(t, c, n)
		length(t, c, 0)
		if id, at, code := c.Next(); id != 0 || at != 0 || code != api.ErrNil {
			t.Errorf("Next: %d, %d, %d", id, at, code)
		}
	}
}

func TestClockOfNoughts(t *testing.T) { // R1: one that New didn't make panics no more than another
	for range 2 {
		c := new(alarm.Clock)
		nothing(t, c)
		clearing(t, c, 0, api.ErrAlarmNone)
		due(t, c, high)
		set(t, c, 2, 1)
		set(t, c, 1, 1)
		next(t, c, 1, 1)
		due(t, c, 1, 1, 2)
		nothing(t, c)
	}
}
