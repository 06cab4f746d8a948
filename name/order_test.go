package name_test

import (
	"strings"
	"testing"

	"interrex/name"
)

// rising are texts, each of them above the one ahead.
var rising = []string{
	"", "\x00", "\x00\x00", "\x00a", "\x01", " ", "-", ".", "0", "10", "2", "9", "@",
	"A", "Z", "[", "a", "a\x00", "a-", "a.", "a0", "aA", "aa", "aab", "ab", "b", "ba",
	"z", "{", "\x7f", "\x80", "\u00e4", "\uffff", "\U00010000", "\xff", "\xff\x00", "\xff\xff",
}

func TestP5_1Compare(t *testing.T) {
	for i, a := range rising {
		for j, b := range rising {
			want := 0
			if i < j {
				want = -1
			} else if i > j {
				want = 1
			}
			if c := name.Compare(a, b); c != want {
				t.Errorf("%q, %q: %d, not %d", a, b, c, want)
			}
		}
	}
}

// What is another one's beginning stands ahead of it.
func TestP5_1CompareABeginning(t *testing.T) {
	s := "ann-b.9\x00\xff"
	for n := range len(s) {
		if name.Compare(s[:n], s) != -1 || name.Compare(s, s[:n]) != 1 {
			t.Errorf("%q", s[:n])
		}
	}
	if name.Compare(s, strings.Clone(s)) != 0 {
		t.Error("not the same as itself")
	}
}

// The first byte that differs counts, however long the texts are.
func TestP5_1CompareLongTexts(t *testing.T) {
	same := strings.Repeat("a", 1<<18)
	for _, c := range []struct {
		a, b string
		want int
	}{
		{same, same, 0},
		{same, same + "a", -1},
		{same + "b", same, 1},
		{same + "a", same + "b", -1},
		{same + "b", same + "aaaa", 1},
		{"b", same, 1},
		{"A", same, -1},
	} {
		if n := name.Compare(c.a, c.b); n != c.want {
			t.Errorf("%d, not %d, of %d and %d bytes", n, c.want, len(c.a), len(c.b))
		}
	}
}
