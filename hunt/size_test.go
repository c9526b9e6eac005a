package hunt_test

import (
	"math"
	"reflect"
	"runtime"
	"strings"
	"testing"
	"time"
	"unsafe"

	"gimlet/api"
	"gimlet/hunt"
)

// What follows tries what is long, and whose memory it is.

// within: what is tried ends in a minute.
func within(t *testing.T, try func()) {
	t.Helper()
	done := make(chan struct{})
	go func() {
		defer close(done)
		try()
	}()
	select {
	case <-done:
	case <-time.After(time.Minute):
		t.Error("P1: it doesn't end in a minute")
	}
}

// needLong: of a Hunt into which the piece comes so many times, what is known then and of the whole text.
func needLong(t *testing.T, a asked, piece string, many int, open, whole api.Truth) {
	t.Helper()
	h, most := made(t, a), len([]rune(a.text))+4
	for range many {
		h.Add(piece)
		if n := h.Kept(); n < 0 || n > most {
			t.Errorf("P16.6: %.40v: Kept %d, at most %d", a, n, most)
			return
		}
	}
	v := h.Truth()
	h.Close()
	if v != open || h.Truth() != whole {
		t.Errorf("P16.3, P16.4: %.40v: %s, then %s; want %s, then %s", a, letter(v), letter(h.Truth()), letter(open), letter(whole))
	}
}

// TestLong: long texts come, and are asked for.
func TestLong(t *testing.T) {
	within(t, func() {
		const long = 1 << 20
		as := strings.Repeat("a", long)
		for _, r := range []struct {
			a           asked
			piece       string
			many        int
			open, whole api.Truth
		}{
			{asked{api.Contains, as + "b", 0}, as, 20, U, F}, {asked{api.Contains, as, 0}, "a", long, T, T}, {asked{api.Contains, as, 0}, "a", long - 1, U, F}, {asked{api.Contains, as + "b", 0}, as + "c", 20, U, F}, {asked{api.Contains, as[:long/2] + "b", 0}, as + "b", 1, T, T},
			{asked{api.Ends, as, 0}, as[:999], 9999, U, T}, {asked{api.Ends, as + "b", 0}, as, 20, U, F}, {asked{api.Ends, as[1:] + "b", 0}, as + "b", 20, U, T}, {asked{api.Ends, strings.Repeat("ab", long/2), 0}, "ab", long, U, T}, {asked{api.Ends, "aab", 0}, as + "b", 20, U, T},
			{asked{api.Equal, as, 0}, "a", long, U, T}, {asked{api.Equal, as, 0}, "a", long + 1, F, F}, {asked{api.Equal, as, 0}, "a", long - 1, U, F}, {asked{api.Unequal, as, 0}, "a", long, U, F}, {asked{api.Unequal, as, 0}, "a", long + 1, T, T}, {asked{api.Equal, as, 0}, "b", 9 * long, F, F},
			{asked{api.Begins, as, 0}, "a", long - 1, U, F}, {asked{api.Begins, as, 0}, "a", long, T, T}, {asked{api.Begins, as, 0}, as[1:] + "b", 9, F, F},
			{asked{api.LengthIs, "", api.MaxNumber}, "é", api.MaxNumber, U, T}, {asked{api.LengthIs, "", api.MaxNumber}, "é", api.MaxNumber + 1, F, F}, {asked{api.Longer, "", api.MaxNumber}, "é", api.MaxNumber, U, F}, {asked{api.Longer, "", api.MaxNumber}, "é", api.MaxNumber + 1, T, T}, {asked{api.Shorter, "", api.MaxNumber}, "é", api.MaxNumber - 1, U, T}, {asked{api.Shorter, "", api.MaxNumber}, "é", api.MaxNumber, F, F},
			{asked{api.LengthIs, "", math.MaxInt}, as, 30, U, F}, {asked{api.Shorter, "", math.MaxInt}, as, 30, U, T}, {asked{api.Exists, as, 0}, as, 30, T, T}, {asked{api.Contains, "b", 0}, as, 30, U, F}, {asked{api.Ends, "", 0}, as, 30, U, T},
		} {
			needLong(t, r.a, r.piece, r.many, r.open, r.whole)
		}
	})
}

// weight: how many numbers and characters hang on what is there.
func weight(v reflect.Value) int {
	switch v.Kind() {
	case reflect.Pointer, reflect.Interface:
		if v.IsNil() {
			return 0
		}
		return weight(v.Elem())
	case reflect.String:
		return v.Len()
	case reflect.Struct:
		n := 0
		for i := range v.NumField() {
			n += weight(v.Field(i))
		}
		return n
	case reflect.Slice, reflect.Array:
		n := 0
		for i := range v.Len() {
			n += weight(v.Index(i))
		}
		return n
	case reflect.Map:
		n := 0
		for it := v.MapRange(); it.Next(); {
			n += weight(it.Key()) + weight(it.Value())
		}
		return n
	}
	return 1
}

// TestWeight: P16.6, of the Hunt itself: however much comes, it doesn't grow by more than Kept may be.
func TestWeight(t *testing.T) {
	m := newMaker(6)
	for range 300 {
		letters := m.letters()
		for _, a := range every(m.text(letters, 9), m.r.IntN(50)) {
			x := newTrial(t, a)
			ahead := weight(reflect.ValueOf(x.h))
			for range 30 {
				x.add(t, m.text(letters, 9))
				if n := weight(reflect.ValueOf(x.h)); n > ahead+x.most {
					t.Fatalf("P16.6: %v: %d behind %q, %d ahead of them", a, n, x.pieces, ahead)
				}
			}
		}
	}
}

// inUse: how many bytes are in use.
func inUse() int {
	runtime.GC()
	var m runtime.MemStats
	runtime.ReadMemStats(&m)
	return int(m.HeapAlloc)
}

// TestRoom: P16.6, P16.7: Hunts that had long texts come hold none of their bytes.
func TestRoom(t *testing.T) {
	const many, long = 8, 1 << 20
	var hunts []*hunt.Hunt
	ahead := inUse()
	for i := range many {
		for _, a := range every("aab", 3*long+i) {
			h := made(t, a)
			for range 3 {
				h.Add(strings.Repeat(string(rune('a'+i)), long-i))
			}
			hunts = append(hunts, h)
		}
	}
	if more := inUse() - ahead; more > long {
		t.Errorf("P16.6: %d bytes are held", more)
	}
	runtime.KeepAlive(hunts)
}

// lent: a text whose bytes may be written over.
func lent(s string) (string, []byte) {
	b := append([]byte(s), "spare"...)
	return unsafe.String(unsafe.SliceData(b), len(s)), b
}

// TestHandedIn: P16.7: what is handed in isn't changed, and may be written over when the call has answered.
func TestHandedIn(t *testing.T) {
	m := newMaker(7)
	for range 2000 {
		letters := m.letters()
		text, number, pieces := m.text(letters, 6), m.r.IntN(20), m.cut(m.text(letters, 20), true)
		for _, a := range every(text, number) {
			x := newTrial(t, a)
			s, b := lent(text)
			h := made(t, asked{a.c, s, number})
			if string(b) != text+"spare" {
				t.Fatalf("P16.7: New changed %q to %q", text, b)
			}
			spoil(b)
			for _, p := range pieces {
				x.add(t, p)
				s, b = lent(p)
				h.Add(s)
				if string(b) != p+"spare" {
					t.Fatalf("P16.7: Add changed %q to %q", p, b)
				}
				spoil(b)
				if h.Truth() != x.h.Truth() {
					t.Fatalf("P16.7: %v: %s behind %q, want %s", a, letter(h.Truth()), x.pieces, letter(x.h.Truth()))
				}
			}
			x.end(t)
			h.Close()
			if h.Truth() != x.h.Truth() {
				t.Fatalf("P16.7: %v: %s, whole, of %q, want %s", a, letter(h.Truth()), pieces, letter(x.h.Truth()))
			}
		}
	}
}

func spoil(b []byte) {
	for i := range b {
		b[i] = 'z'
	}
}
