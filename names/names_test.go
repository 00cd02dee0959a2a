package names_test

import (
	"strings"
	"testing"

	"folkmoot/names"
)

func TestIs(t *testing.T) { // each byte, in the first place and behind it
	const first, behind = "abcdefghijklmnopqrstuvwxyz", "abcdefghijklmnopqrstuvwxyz0123456789_"
	for b := range 256 {
		s := string([]byte{byte(b)})
		if names.Is(s) != strings.Contains(first, s) {
			t.Errorf("Is(%q): %t", s, names.Is(s))
		}
		for _, ahead := range []string{"a", "z9", "a_b"} {
			if names.Is(ahead+s) != strings.Contains(behind, s) {
				t.Errorf("Is(%q): %t", ahead+s, names.Is(ahead+s))
			}
			if names.Is(ahead+s+"a") != strings.Contains(behind, s) {
				t.Errorf("Is(%q): %t", ahead+s+"a", names.Is(ahead+s+"a"))
			}
		}
	}
}

func TestLength(t *testing.T) { // 1 to 16
	for n := range 100 {
		if is := names.Is(strings.Repeat("a", n)); is != (n >= 1 && n <= 16) {
			t.Errorf("Is of %d letters: %t", n, is)
		}
	}
}
