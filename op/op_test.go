package op_test

import (
	"fmt"
	"math"
	"strings"
	"testing"

	"interrex/api"
	"interrex/op"
)

// told is the document's table of kinds, as it stands there.
var told = []struct {
	kind        uint8
	name, signs string
	from        int
}{
	{0, "create", "a b", 1}, {9, "make", "a", 2},
	{1, "delete", "a", 1}, {10, "drop", "a", 2},
	{2, "sethash", "a b", 1}, {11, "join", "a b", 2},
	{3, "lookup", "a", 1}, {12, "leave", "a b", 2},
	{4, "list", "a", 1}, {13, "find", "a", 2},
	{5, "setmail", "a b", 2}, {14, "members", "a", 2},
	{6, "disable", "a", 2}, {15, "upgrade", "", 1},
	{7, "enable", "a", 2}, {16, "advertise", "n r", 1},
	{8, "rename", "a b", 2},
}

// signs tells which parts a kind has, and whether there is one.
func signs(kind uint8) (string, bool) {
	for _, x := range told {
		if x.kind == kind {
			return x.signs, true
		}
	}
	return "", false
}

// has tells whether a part belongs to a kind.
func has(kind uint8, sign string) bool {
	s, _ := signs(kind)
	return strings.Contains(s, sign)
}

// text is a text's bytes.
func text(s string) string { return string([]byte{byte(len(s)), byte(len(s) >> 8)}) + s }

// spelt is the bytes of an operation, told by the table alone.
func spelt(o op.Op) string {
	s := string([]byte{o.Kind})
	if has(o.Kind, "a") {
		s += text(o.A)
	}
	if has(o.Kind, "b") {
		s += text(o.B)
	}
	if has(o.Kind, "n") {
		s += string([]byte{o.Node, byte(o.Release)})
	}
	return s
}

// shown is an operation, for whoever reads what a test says.
func shown(o op.Op) string {
	return fmt.Sprintf("kind %d, %.90q, %.90q, node %d, release %d", o.Kind, o.A, o.B, o.Node, o.Release)
}

// odd is texts of many kinds: none of them is too long.
var odd = []string{"", "a", "1", "ann", "Ann.B", "A@b.c", "\x00", "\xff", "\xc3", "ä", "世", "\n", "a b", " ", "a\x00b", "\x01\x00a", strings.Repeat("x", 29), strings.Repeat("\xff", 29)}

// each goes through operations of each kind that may be.
func each(tell func(o op.Op)) {
	for _, x := range told {
		switch x.signs {
		case "":
			tell(op.Op{Kind: x.kind})
		case "a":
			for _, a := range append(odd, strings.Repeat("y", 61)) {
				tell(op.Op{Kind: x.kind, A: a})
			}
		case "a b":
			for _, a := range odd {
				for _, b := range odd {
					tell(op.Op{Kind: x.kind, A: a, B: b})
				}
			}
			tell(op.Op{Kind: x.kind, A: strings.Repeat("y", 59)})
			tell(op.Op{Kind: x.kind, B: strings.Repeat("y", 59)})
			tell(op.Op{Kind: x.kind, A: strings.Repeat("y", 30), B: strings.Repeat("z", 29)})
		case "n r":
			for n := range uint8(api.MaxNodes) {
				for r := api.Old; r <= api.Both; r++ {
					tell(op.Op{Kind: x.kind, Node: n, Release: r})
				}
			}
		}
	}
}

func TestP14_1Kinds(t *testing.T) {
	for i, k := range []uint8{op.Create, op.Delete, op.SetHash, op.Lookup, op.List, op.SetMail, op.Disable, op.Enable, op.Rename, op.Make, op.Drop, op.Join, op.Leave, op.Find, op.Members, op.Upgrade, op.Advertise} {
		if int(k) != i {
			t.Error("the kind at", i, "is", k)
		}
	}
	if op.Kinds != 17 || len(told) != op.Kinds {
		t.Error("so many kinds", op.Kinds, len(told))
	}
}

func TestP14_1From(t *testing.T) {
	for _, x := range told {
		if n := op.From(int(x.kind)); n != x.from {
			t.Errorf("%s is from %d on, not from %d", x.name, n, x.from)
		}
	}
}

func TestP14_1Name(t *testing.T) {
	seen := map[string]bool{}
	for _, x := range told {
		n := op.Name(int(x.kind))
		if n != x.name || seen[n] {
			t.Errorf("kind %d is called %q, not %q", x.kind, n, x.name)
		}
		seen[n] = true
	}
}

func TestP14_1NoSuchKind(t *testing.T) {
	for _, k := range []int{-1, -2, -17, -255, -256, 17, 18, 32, 64, 128, 255, 256, 257, 256 + 15, 512, 65536, 1 << 32, 1<<32 + 4, math.MaxInt, math.MinInt, math.MinInt + 1} {
		if n, f := op.Name(k), op.From(k); n != "" || f != 0 {
			t.Errorf("kind %d: %q from %d on", k, n, f)
		}
	}
	for k := -400; k < 400; k++ {
		is := k >= 0 && k < 17
		if (op.Name(k) != "") != is || (op.From(k) != 0) != is {
			t.Errorf("kind %d: %q from %d on", k, op.Name(k), op.From(k))
		}
	}
}
