package lists_test

import (
	"cmp"
	"slices"
	"testing"

	"folkmoot/lists"
)

// spare answers a list of these numbers with filled room behind it.
func spare(list ...int) []int { return append(slices.Clone(list), -7, -7)[:len(list)] }

// fresh holds that out is want in new memory, nil if empty, and that list was not written into.
func fresh(t *testing.T, name string, list, was, out, want []int) {
	t.Helper()
	if !slices.Equal(out, want) || len(out) == 0 && out != nil {
		t.Errorf("%s: %v; want %v", name, out, want)
	}
	for i := range out[:cap(out)] {
		out[:cap(out)][i] = -9
	}
	if !slices.Equal(list, was) || !slices.Equal(list[:len(list)+2][len(list):], []int{-7, -7}) {
		t.Errorf("%s wrote into what was handed in, or tells its memory: %v", name, list[:len(list)+2])
	}
}

func TestRise(t *testing.T) {
	for _, list := range [][]int{nil, {}, {3}, {1, 2}, {-1, 0, 7, 9}} {
		if !lists.Rise(list, cmp.Compare) {
			t.Errorf("Rise of %v: false", list)
		}
	}
	for _, list := range [][]int{{2, 1}, {1, 1}, {1, 3, 2}, {2, 1, 3}, {1, 2, 2}, {1, 1, 2}} {
		if lists.Rise(list, cmp.Compare) {
			t.Errorf("Rise of %v: true", list)
		}
	}
}

func TestLists(t *testing.T) {
	for n := range 5 {
		list := spare([]int{0, 10, 20, 30}[:n]...)
		was := slices.Clone(list)
		for x := -5; x < 40; x += 10 {
			want := append(slices.Clone(was), x)
			slices.Sort(want)
			fresh(t, "Insert", list, was, lists.Insert(list, x, cmp.Compare), want)
		}
		for at := range n {
			fresh(t, "Without", list, was, lists.Without(list, at), slices.Delete(slices.Clone(was), at, at+1))
		}
		fresh(t, "Copy", list, was, lists.Copy(list), was)
	}
}
