package octet_test

import (
	"bytes"
	"math"
	"strings"
	"testing"

	"interrex/octet"
)

// written is what one deed writes into a new Writer.
func written(deed func(w *octet.Writer) *octet.Writer) []byte {
	var w octet.Writer
	return deed(&w).Bytes()
}

func TestP1_1NewWriterHasNoBytes(t *testing.T) {
	var w octet.Writer
	if b := w.Bytes(); len(b) != 0 {
		t.Error(b)
	}
}

func TestP1_1EachThing(t *testing.T) {
	cases := []struct {
		name string
		deed func(w *octet.Writer) *octet.Writer
		want []byte
	}{
		{"byte 0", func(w *octet.Writer) *octet.Writer { return w.Byte(0) }, []byte{0}},
		{"byte", func(w *octet.Writer) *octet.Writer { return w.Byte(200) }, []byte{200}},
		{"byte end", func(w *octet.Writer) *octet.Writer { return w.Byte(math.MaxUint8) }, []byte{255}},
		{"two 0", func(w *octet.Writer) *octet.Writer { return w.Two(0) }, []byte{0, 0}},
		{"two", func(w *octet.Writer) *octet.Writer { return w.Two(0x0102) }, []byte{2, 1}},
		{"two end", func(w *octet.Writer) *octet.Writer { return w.Two(math.MaxUint16) }, []byte{255, 255}},
		{"four 0", func(w *octet.Writer) *octet.Writer { return w.Four(0) }, []byte{0, 0, 0, 0}},
		{"four of the document", func(w *octet.Writer) *octet.Writer { return w.Four(258) }, []byte{2, 1, 0, 0}},
		{"four", func(w *octet.Writer) *octet.Writer { return w.Four(0x81020304) }, []byte{4, 3, 2, 0x81}},
		{"four end", func(w *octet.Writer) *octet.Writer { return w.Four(math.MaxUint32) }, []byte{255, 255, 255, 255}},
		{"eight 0", func(w *octet.Writer) *octet.Writer { return w.Eight(0) }, make([]byte, 8)},
		{"eight", func(w *octet.Writer) *octet.Writer { return w.Eight(0x8102030405060708) }, []byte{8, 7, 6, 5, 4, 3, 2, 0x81}},
		{"eight end", func(w *octet.Writer) *octet.Writer { return w.Eight(math.MaxUint64) }, bytes.Repeat([]byte{255}, 8)},
		{"false", func(w *octet.Writer) *octet.Writer { return w.Truth(false) }, []byte{0}},
		{"true", func(w *octet.Writer) *octet.Writer { return w.Truth(true) }, []byte{1}},
		{"no text", func(w *octet.Writer) *octet.Writer { return w.Text("") }, []byte{0, 0}},
		{"text of the document", func(w *octet.Writer) *octet.Writer { return w.Text("a") }, []byte{1, 0, 97}},
		{"text of any bytes", func(w *octet.Writer) *octet.Writer { return w.Text("\xff\x00é") }, []byte{4, 0, 0xff, 0, 0xc3, 0xa9}},
		{"nil row", func(w *octet.Writer) *octet.Writer { return w.Row(nil) }, []byte{0, 0}},
		{"empty row", func(w *octet.Writer) *octet.Writer { return w.Row([]string{}) }, []byte{0, 0}},
		{"row", func(w *octet.Writer) *octet.Writer { return w.Row([]string{"x", "", "yz"}) }, []byte{3, 0, 1, 0, 'x', 0, 0, 2, 0, 'y', 'z'}},
		{"nil raw", func(w *octet.Writer) *octet.Writer { return w.Raw(nil) }, nil},
		{"raw", func(w *octet.Writer) *octet.Writer { return w.Raw([]byte{9, 0, 255}) }, []byte{9, 0, 255}},
	}
	for _, c := range cases {
		if b := written(c.deed); !bytes.Equal(b, c.want) {
			t.Errorf("%s: %v, not %v", c.name, b, c.want)
		}
	}
}

func TestP1_1EachCallTellsTheWriterItself(t *testing.T) {
	var w octet.Writer
	told := []*octet.Writer{
		w.Byte(1), w.Two(1), w.Four(1), w.Eight(1), w.Truth(true), w.Truth(false),
		w.Text("a"), w.Text(""), w.Row([]string{"a"}), w.Row(nil), w.Raw([]byte{1}), w.Raw(nil),
	}
	for i, x := range told {
		if x != &w {
			t.Errorf("call %d told another Writer", i)
		}
	}
}

func TestP1_1OneThingBehindTheOthers(t *testing.T) {
	var w octet.Writer
	w.Byte(1).Two(2).Four(3)
	first := w.Bytes()
	w.Truth(true).Text("a").Row([]string{"b"}).Raw([]byte{7}).Eight(4)
	want := []byte{1, 2, 0, 3, 0, 0, 0}
	if !bytes.Equal(first, want) {
		t.Error("first part", first)
	}
	want = append(want, 1, 1, 0, 'a', 1, 0, 1, 0, 'b', 7, 4, 0, 0, 0, 0, 0, 0, 0)
	for range 2 { // to ask twice changes nothing
		if b := w.Bytes(); !bytes.Equal(b, want) {
			t.Error("whole", b)
		}
	}
}

func TestP1_1LongTexts(t *testing.T) {
	for _, n := range []int{65534, 65535, 65536, 65537, 131073} {
		s := strings.Repeat("a", 65534) + "bc" + strings.Repeat("d", 70000)
		s = s[:n]
		kept := min(n, 65535)
		b := written(func(w *octet.Writer) *octet.Writer { return w.Text(s).Byte(77) })
		if len(b) != 2+kept+1 || int(b[0])+256*int(b[1]) != kept || string(b[2:2+kept]) != s[:kept] || b[2+kept] != 77 {
			t.Errorf("text of %d: %d bytes, begins with %v", n, len(b), b[:2])
		}
	}
}

func TestP1_1LongRows(t *testing.T) {
	for _, n := range []int{65534, 65535, 65536, 65537, 131073} {
		l := make([]string, n)
		l[65533], l[min(n, 65535)-1] = "x", "y"
		if n > 65535 {
			l[65535] = "beyond"
		}
		kept := min(n, 65535)
		var w octet.Writer
		w.Two(uint16(kept))
		for _, s := range l[:kept] {
			w.Text(s)
		}
		want := w.Byte(77).Bytes()
		b := written(func(w *octet.Writer) *octet.Writer { return w.Row(l).Byte(77) })
		if !bytes.Equal(b, want) {
			t.Errorf("row of %d: %d bytes, not %d", n, len(b), len(want))
		}
	}
}

func TestP1_1LongTextInRow(t *testing.T) {
	s := strings.Repeat("a", 65536)
	b := written(func(w *octet.Writer) *octet.Writer { return w.Row([]string{s, "z"}) })
	want := append([]byte{2, 0, 255, 255}, s[:65535]...)
	want = append(want, 1, 0, 'z')
	if !bytes.Equal(b, want) {
		t.Error(len(b), len(want))
	}
}
