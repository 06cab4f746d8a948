package advert_test

import (
	"testing"

	"interrex/advert"
	"interrex/api"
	"interrex/octet"
)

// spelt is a board's bytes, told by the document alone.
func spelt(m model) string {
	b := []byte{byte(len(m))}
	for _, r := range m {
		b = append(b, byte(r))
	}
	return string(b)
}

// written is a board's bytes.
func written(b *advert.Board) string {
	var w octet.Writer
	b.Write(&w)
	return string(w.Bytes())
}

// isRead reads bytes that are a board's, alone and ahead of others.
func isRead(t *testing.T, what, bytes string, m model) {
	t.Helper()
	for _, behind := range []string{"", "\x00", "\x04", "\xff\xff", bytes} {
		r := octet.Of([]byte(bytes + behind))
		isTold(t, what, advert.Read(r), m)
		if r.Err() != api.OK || string(r.Raw(len(behind))) != behind || r.End() != api.OK {
			t.Fatalf("%s: %q: error %d, left %d", what, bytes, r.Err(), r.Left())
		}
	}
}

// isNone reads bytes that are no board's.
func isNone(t *testing.T, what, bytes string, want api.Errno) {
	t.Helper()
	r := octet.Of([]byte(bytes))
	b := advert.Read(r)
	if b != nil || r.Err() != want || r.Left() != 0 {
		t.Errorf("%s: %q: a board: %t, error %d, not %d, left %d", what, bytes, b != nil, r.Err(), want, r.Left())
	}
}

func TestP16_2WriteByHand(t *testing.T) {
	for n, want := range map[int]string{3: "\x03\x00\x00\x00", 5: "\x05\x00\x00\x00\x00\x00", 7: "\x07\x00\x00\x00\x00\x00\x00\x00"} {
		if b := written(advert.New(n)); b != want {
			t.Errorf("a new board: %q, not %q", b, want)
		}
	}
	b := noted(t, model{api.Both, api.Both, api.Old})
	if got := written(b); got != "\x03\x03\x03\x01" {
		t.Errorf("%q", got)
	}
	isNoted(t, b, 1, api.New)
	if got := written(b); got != "\x03\x03\x02\x01" {
		t.Errorf("%q", got)
	}
}

func TestP16_2Write(t *testing.T) {
	for _, n := range sizes {
		each(n, func(m model) {
			if b := written(noted(t, m)); b != spelt(m) {
				t.Fatalf("%q, not %q", b, spelt(m))
			}
		})
	}
}

// What was written before stays, and what is written then stands behind.
func TestP16_2WriteBehind(t *testing.T) {
	var w octet.Writer
	w.Text("a")
	noted(t, model{1, 2, 3}).Write(&w)
	advert.New(5).Write(&w)
	w.Byte(9)
	want := "\x01\x00a" + "\x03\x01\x02\x03" + "\x05\x00\x00\x00\x00\x00" + "\x09"
	if b := string(w.Bytes()); b != want {
		t.Errorf("%q, not %q", b, want)
	}
}

func TestP16_2Read(t *testing.T) {
	for _, n := range sizes {
		each(n, func(m model) { isRead(t, "each one", spelt(m), m) })
	}
}

// Behind what was read before, not from the beginning.
func TestP16_2ReadsTheNextOne(t *testing.T) {
	r := octet.Of([]byte("\x01\x00a" + "\x03\x01\x02\x03" + "\x07\x03\x00\x03\x00\x03\x00\x03"))
	if r.Text(1) != "a" {
		t.Fatal("the text ahead")
	}
	isTold(t, "the first one", advert.Read(r), model{1, 2, 3})
	isTold(t, "the second one", advert.Read(r), model{3, 0, 3, 0, 3, 0, 3})
	if e := r.End(); e != api.OK {
		t.Error(e)
	}
	if advert.Read(r) != nil || r.Err() != api.ErrShort {
		t.Error("a third one", r.Err())
	}
}

// Each beginning of a board's bytes wants some.
func TestP16_2ReadShort(t *testing.T) {
	isNone(t, "nil", "", api.ErrShort)
	for _, n := range sizes {
		for r := range api.Release(4) {
			m := make(model, n)
			for node := range m {
				m[node] = r
			}
			for long := range n + 1 {
				isNone(t, "cut short", spelt(m)[:long], api.ErrShort)
			}
		}
	}
}

// So many nodes there aren't, whatever stands behind.
func TestP16_2ReadNodes(t *testing.T) {
	for n := range 256 {
		if n == 3 || n == 5 || n == 7 {
			continue
		}
		for _, behind := range []string{"", "\x01", "\x04", "\x01\x02\x03", "\x03\x01\x02\x03", string(make([]byte, n)), string(make([]byte, 300))} {
			isNone(t, "nodes", string([]byte{byte(n)})+behind, api.ErrForm)
		}
	}
}

// A release above 3 is told where it stands: ahead of what is wrong or wanting
// behind it, behind nothing but what was read.
func TestP16_2ReadReleases(t *testing.T) {
	for _, n := range sizes {
		for node := range n {
			for r := 4; r < 256; r++ {
				b := []byte(spelt(model{1, 2, 3, 0, 3, 2, 1}[:n]))
				b[1+node] = byte(r)
				isNone(t, "a release", string(b), api.ErrForm)
				isNone(t, "and more behind", string(b)+"\x03\x01\x02\x03", api.ErrForm)
				isNone(t, "and bytes wanting", string(b[:2+node]), api.ErrForm)
				isNone(t, "and bytes wanting ahead of it", string(b[:1+node]), api.ErrShort)
				b[n] = 4
				isNone(t, "and another one", string(b), api.ErrForm)
			}
		}
	}
}

// An error that the reader has stays, and there is no board.
func TestP16_2ReadersError(t *testing.T) {
	for e := api.ErrArg; e <= api.ErrBusy; e++ {
		for _, bytes := range []string{"", "\x03\x01\x02\x03", "\x05\x00\x00\x00\x00\x00", "\x04", "\x03\x04\x04\x04", "\x03\x01"} {
			r := octet.Of([]byte(bytes))
			r.Fail(e)
			if b := advert.Read(r); b != nil || r.Err() != e || r.Left() != 0 {
				t.Errorf("error %d: a board: %t, error %d", e, b != nil, r.Err())
			}
		}
	}
}

func TestP16_2Copy(t *testing.T) {
	for _, n := range sizes {
		isTold(t, "of a new one", advert.New(n).Copy(), make(model, n))
		each(n, func(m model) { isTold(t, "copied", noted(t, m).Copy(), m) })
	}
}
