package image_test

import (
	"fmt"
	"strings"
	"testing"

	"interrex/api"
	"interrex/folio"
	"interrex/image"
	"interrex/op"
	"interrex/shot"
)

// walk goes through bytes, up to the first fault.
type walk struct {
	left string
	e    api.Errno
}

func (w *walk) fail(e api.Errno) {
	if w.e == api.OK {
		w.e = e
	}
}

func (w *walk) take(n int) string {
	if w.e == api.OK && n > len(w.left) {
		w.e = api.ErrShort
	}
	if w.e != api.OK {
		return ""
	}
	s := w.left[:n]
	w.left = w.left[n:]
	return s
}

func (w *walk) number(size int) uint64 {
	var x uint64
	for i, c := range []byte(w.take(size)) {
		x += uint64(c) << (8 * i)
	}
	return x
}

func (w *walk) row() {
	n := w.number(8)
	if n > most {
		w.fail(api.ErrForm)
	}
	if n > 0 && w.e == api.OK {
		reply := w.take(int(w.number(2)))
		if w.e == api.OK {
			_, e := op.Get([]byte(reply))
			w.fail(e)
		}
	}
}

func (w *walk) board() {
	n := w.number(1)
	if n != 3 && n != 5 && n != 7 {
		w.fail(api.ErrForm)
	}
	for range n {
		if w.number(1) > 3 {
			w.fail(api.ErrForm)
		}
	}
}

// told is the error that Read is to tell, told another way.
func told(b string) api.Errno {
	w := walk{left: b}
	version := w.number(1)
	if version != 1 && version != 2 {
		w.fail(api.ErrVersion)
	}
	dir := w.take(int(w.number(2)))
	for range 8 {
		w.row()
	}
	w.board()
	if w.e == api.OK && w.left != "" {
		return api.ErrLong
	}
	if w.e != api.OK {
		return w.e
	}
	if version == 1 {
		_, e := shot.Read([]byte(dir))
		return e
	}
	_, e := folio.Read([]byte(dir))
	return e
}

func TestP18_1Read(t *testing.T) {
	for i, m := range hosts() {
		isTold(t, fmt.Sprint("host ", i), read(t, "spelt", []byte(m.spelt())), m)
	}
}

// ReadByHand: the document's example, and each board and version.
func TestP18_1ReadByHand(t *testing.T) {
	isTold(t, "the example", read(t, "the example", []byte("\x01\x03\x00\x01\x00\x00"+zeros(64)+"\x03\x00\x00\x00")), fresh(3))
	m := fresh(7)
	m.version = 2
	m.releases = []api.Release{0, 1, 2, 3, 2, 1, 0}
	isTold(t, "of seven", read(t, "of seven", []byte("\x02\x05\x00\x02\x00\x00\x00\x00"+zeros(64)+"\x07\x00\x01\x02\x03\x02\x01\x00")), m)
}

// However few bytes are wanting: what stands there is what is to stand there.
func TestP18_1ReadShort(t *testing.T) {
	for i, m := range hosts() {
		b := m.spelt()
		for n := range len(b) {
			refused(t, fmt.Sprint("host ", i), b[:n], api.ErrShort)
		}
	}
	refused(t, "just a version", "\x01", api.ErrShort)
	refused(t, "a text of no bytes alone", "\x02\x00\x00", api.ErrShort)
	refused(t, "a long text", "\x01\xff\xff\x01\x00\x00", api.ErrShort)
	if h, e := image.Read(nil); h != nil || e != api.ErrShort {
		t.Errorf("no bytes: a host: %t, error %d", h != nil, e)
	}
	if h, e := image.Read([]byte{}); h != nil || e != api.ErrShort {
		t.Errorf("no bytes: a host: %t, error %d", h != nil, e)
	}
}

func TestP18_1ReadLong(t *testing.T) {
	for i, m := range hosts() {
		for _, behind := range []string{"\x00", "\x01", "\xff", zeros(8), m.board(), m.spelt()} {
			refused(t, fmt.Sprint("host ", i), m.spelt()+behind, api.ErrLong)
		}
	}
}

// No other version is one, whatever stands behind it, and if nothing does.
func TestP18_1ReadVersion(t *testing.T) {
	for first := range 256 {
		if first == 1 || first == 2 {
			continue
		}
		version := string([]byte{byte(first)})
		for _, behind := range []string{"", "\x00", "\xff\xff", "\x03\x00", fresh(3).spelt()[1:], newers().spelt()[1:], newers().spelt()[1:] + "a"} {
			refused(t, "no version", version+behind, api.ErrVersion)
		}
	}
}

// The version must be the directory's schema.
func TestP18_1ReadOtherSchema(t *testing.T) {
	for i, m := range hosts() {
		other := string([]byte{byte(3 - m.version)}) + m.spelt()[1:]
		refused(t, fmt.Sprint("host ", i), other, api.ErrVersion)
		refused(t, fmt.Sprint("host ", i, ", and more"), other+"a", api.ErrLong)
		refused(t, fmt.Sprint("host ", i, ", and less"), other[:len(other)-1], api.ErrShort)
	}
}

// with is a host's bytes of such parts.
func with(version byte, dir, rows, board string) string {
	return string([]byte{version}) + text(dir) + rows + board
}

// empties are the bytes of empty directories, by the version.
var empties = [3]string{1: "\x01\x00\x00", 2: "\x02\x00\x00\x00\x00"}

const noted = "\x03\x01\x02\x03"

// badReplies are bytes that are no reply's.
var badReplies = []struct {
	b string
	e api.Errno
}{
	{"", api.ErrShort}, {"\x00", api.ErrShort}, {"\x00\x00", api.ErrShort}, {"\x00\x01\x00", api.ErrShort}, {"\x00\x01\x00\x02\x00a", api.ErrShort},
	{"\x13\x00\x00", api.ErrForm}, {"\xff", api.ErrForm}, {"\x01\x01\x00\x01\x00a", api.ErrForm},
	{"\x00\x91\x01", api.ErrLong}, {"\x00\x01\x00\x91\x01", api.ErrLong}, {"\x00\x00\x00\x00", api.ErrLong}, {"\x01\x00\x00a", api.ErrLong},
}

func TestP18_1ReadTable(t *testing.T) {
	for version := byte(1); version <= 2; version++ {
		for client := range 8 {
			in := func(row string) string { return zeros(8*client) + row + zeros(8*(7-client)) }
			for _, bad := range badReplies {
				for _, n := range []uint64{1, 256, most} {
					refused(t, "no reply", with(version, empties[version], in(number(n, 8)+text(bad.b)), noted), bad.e)
				}
			}
			for _, n := range []uint64{most + 1, 1 << 41, 1 << 63, 1<<64 - 1} {
				refused(t, "no number", with(version, empties[version], in(number(n, 8)+"\x03\x00\x00\x00\x00"), noted), api.ErrForm)
				refused(t, "no number alone", with(version, empties[version], zeros(8*client)+number(n, 8), ""), api.ErrForm)
			}
			read(t, "the highest number", []byte(with(version, empties[version], in(number(most, 8)+"\x03\x00\x00\x00\x00"), noted)))
		}
	}
}

func TestP18_1ReadBoard(t *testing.T) {
	for version := byte(1); version <= 2; version++ {
		for n := range 256 {
			board := string([]byte{byte(n)}) + strings.Repeat("\x03", n)
			b := with(version, empties[version], zeros(64), board)
			if n == 3 || n == 5 || n == 7 {
				read(t, "a board", []byte(b))
				continue
			}
			refused(t, "no board", b, api.ErrForm)
			refused(t, "no board, and no more", b[:len(b)-n], api.ErrForm)
		}
		for _, n := range sizes {
			for node := range n {
				for r := range 256 {
					board := string([]byte{byte(n)}) + strings.Repeat("\x02", node) + string([]byte{byte(r)}) + zeros(n-node-1)
					b := with(version, empties[version], zeros(64), board)
					if r <= 3 {
						read(t, "a release", []byte(b))
						continue
					}
					refused(t, "no release", b, api.ErrForm)
					refused(t, "no release, and no more", b[:len(b)-(n-node-1)], api.ErrForm)
				}
			}
		}
	}
}

// badDirs are bytes that are no directory's, by the version.
var badDirs = [3][]struct {
	b string
	e api.Errno
}{
	1: {
		{"", api.ErrShort}, {"\x01", api.ErrShort}, {"\x01\x01\x00", api.ErrShort}, {"\x00", api.ErrVersion}, {"\x03\x00\x00", api.ErrVersion},
		{"\x01\x0d\x00", api.ErrFull}, {"\x01\x01\x00\x01\x00A\x01\x001", api.ErrName}, {"\x01\x01\x00\x01\x00a\x01\x00g", api.ErrForm},
		{"\x01\x02\x00\x01\x00a\x01\x001\x01\x00a\x01\x001", api.ErrSame}, {"\x01\x00\x00\x00", api.ErrLong}, {"\x02\x00\x00\x00\x00", api.ErrVersion},
	},
	2: {
		{"", api.ErrShort}, {"\x02\x00\x00\x00", api.ErrShort}, {"\x00", api.ErrVersion}, {"\x01\x00\x00", api.ErrVersion},
		{"\x02\x07\x00", api.ErrLong}, {"\x02\x00\x00\x0d\x00", api.ErrFull}, {"\x02\x01\x00\x01\x00A\x00\x00", api.ErrName},
		{"\x02\x00\x00\x01\x00\x01\x00a\x01\x001\x01\x00@\x00\x00\x00", api.ErrMail}, {"\x02\x00\x00\x00\x00\x00", api.ErrLong},
		{"\x02\x00\x00\x01\x00\x01\x00a\x01\x001\x00\x00\x00\x01\x00\x01\x00g", api.ErrNone},
	},
}

// What the directory's bytes are is told behind all else.
func TestP18_1ReadDir(t *testing.T) {
	for version := byte(1); version <= 2; version++ {
		for _, bad := range badDirs[version] {
			b := with(version, bad.b, zeros(64), noted)
			refused(t, "no directory", b, bad.e)
			refused(t, "no directory, and more", b+"\x00", api.ErrLong)
			refused(t, "no directory, and less", b[:len(b)-1], api.ErrShort)
			refused(t, "no directory, and no board", with(version, bad.b, zeros(64), "\x04"), api.ErrForm)
			refused(t, "no directory, and no table", with(version, bad.b, number(1, 8)+"\x03\x00\x00\x91\x01", ""), api.ErrLong)
		}
		long := empties[version] + zeros(65535-len(empties[version]))
		refused(t, "the longest text", with(version, long, zeros(64), noted), api.ErrLong)
		refused(t, "the longest text", with(version, "\x00"+long[1:], zeros(64), noted), api.ErrVersion)
		refused(t, "the longest text, and more", with(version, long, zeros(64), noted+"a"), api.ErrLong)
	}
}

// Of faults in all parts the first one from the left counts, but the
// directory's comes last.
func TestP18_1ReadOrder(t *testing.T) {
	parts := [5][2]struct {
		b string
		e api.Errno
	}{
		{{"\x01", api.OK}, {"\x07", api.ErrVersion}},
		{{zeros(64), api.OK}, {number(9, 8) + text("\x00\x91\x01") + zeros(56), api.ErrLong}},
		{{noted, api.OK}, {"\x03\x03\x04\x03", api.ErrForm}},
		{{"", api.OK}, {"\x00\x00", api.ErrLong}},
		{{empties[1], api.OK}, {"\x01\x0d\x00", api.ErrFull}},
	}
	for bits := range 32 {
		var b [5]string
		want := api.OK
		for i := range parts {
			part := parts[i][bits>>i&1]
			b[i] = part.b
			if want == api.OK {
				want = part.e
			}
		}
		whole := b[0] + text(b[4]) + b[1] + b[2] + b[3]
		if want == api.OK {
			read(t, "no fault", []byte(whole))
			continue
		}
		refused(t, fmt.Sprintf("faults %05b", bits), whole, want)
		for n := range len(whole) {
			if e := told(whole[:n]); e != api.OK {
				refused(t, fmt.Sprintf("faults %05b", bits), whole[:n], e)
			}
		}
	}
}

// isAsTold reads bytes, whatever they are: the error is the one that is to be
// told, and a host tells them again. It tells whether there is one.
func isAsTold(t *testing.T, b string) bool {
	t.Helper()
	want := told(b)
	if want != api.OK {
		refused(t, "spoilt", b, want)
		return false
	}
	h := read(t, "spoilt", []byte(b))
	if again := image.Bytes(h); string(again) != b {
		t.Errorf("%.200q, not %.200q", again, b)
	}
	return true
}

// Each byte of a host's, made another one.
func TestP18_1ReadSpoilt(t *testing.T) {
	hosts, not := 0, 0
	for _, m := range []model{fresh(3), elders(), newers()} {
		b := []byte(m.spelt())
		for i, was := range b {
			for x := range 256 {
				b[i] = byte(x)
				if isAsTold(t, string(b)) {
					hosts++
				} else {
					not++
				}
			}
			b[i] = was
		}
	}
	if hosts < 1000 || not < 1000 {
		t.Error(hosts, not)
	}
}

// Bytes that are put in, or left out, or moved.
func TestP18_1ReadThrown(t *testing.T) {
	d := dice(181)
	signs := []byte{0, 0, 1, 2, 3, 4, 5, 7, 8, 12, 13, 18, 19, 'a', 'b', '1', '@', 'A', 128, 255}
	met := map[api.Errno]int{}
	all := hosts()[:7]
	for range 40000 {
		b := []byte(all[d.below(len(all))].spelt())
		for range 1 + d.below(3) {
			at := d.below(len(b))
			switch d.below(4) {
			case 0:
				b = append(b[:at], b[at+1:]...)
			case 1:
				b = append(b[:at+1], b[at:]...)
			case 2:
				b[at] = signs[d.below(len(signs))]
			default:
				b = append(b, signs[d.below(len(signs))])
			}
		}
		isAsTold(t, string(b))
		met[told(string(b))]++
	}
	for _, e := range []api.Errno{api.OK, api.ErrShort, api.ErrLong, api.ErrForm, api.ErrVersion, api.ErrSame, api.ErrName} {
		if met[e] == 0 {
			t.Errorf("error %d was never met: %v", e, met)
		}
	}
}
