package frame

import (
	"bytes"
	"math"
	"reflect"
	"strings"
	"testing"

	"undertone/api"
)

// wide copies a list, with room behind it in which something stands.
func wide[T any](l []T, more ...T) []T { return append(append([]T{}, l...), more...)[:len(l)] }

func wideAsks(l []api.Ask) []api.Ask {
	out := wide(l, api.Ask{ID: 1, Kind: 10, Text: "behind"})
	for i := range out {
		out[i].Args = wide(out[i].Args, 1, 2, 3, 4, 5, 6)
	}
	return out
}

// whole has a list with the room behind it.
func whole[T any](l []T) []T { return l[:cap(l)] }

// kept copies all that questions have, with the room behind it.
func kept(l []api.Ask) []api.Ask {
	out := append([]api.Ask(nil), whole(l)...)
	for i := range out {
		out[i].Args = append([]int(nil), whole(out[i].Args)...)
	}
	return out
}

// unlike has the same questions, their lists without entries nil, if they were not, or not nil.
func unlike(l []api.Ask) []api.Ask {
	out := append([]api.Ask(nil), l...)
	for i := range out {
		if len(out[i].Args) == 0 && out[i].Args == nil {
			out[i].Args = []int{}
		} else if len(out[i].Args) == 0 {
			out[i].Args = nil
		}
	}
	return out
}

func TestQuestionsAreOnlyRead(t *testing.T) {
	made(1000, func(m *maker) {
		l := m.asks()
		if m.Intn(3) == 0 {
			l = append(l, m.wrong())
		}
		want, fw := Bytes(l)
		g := wideAsks(l)
		was := kept(g)
		for range 2 {
			if got, f := Bytes(g); !bytes.Equal(got, want) || f != fw {
				t.Fatalf("with room behind lists of %v comes %q, %s, not %q, %s", l, got, fault(f), want, fault(fw))
			}
		}
		for _, a := range g {
			Wrong(a)
		}
		if !reflect.DeepEqual(kept(g), was) {
			t.Fatalf("who asks of %v changes it, or room behind it", l)
		}
		for _, other := range [][]api.Ask{unlike(l), unlike(unlike(l))} {
			if got, f := Bytes(other); !bytes.Equal(got, want) || f != fw {
				t.Fatalf("with other lists without entries of %v comes %q, %s, not %q, %s", l, got, fault(f), want, fault(fw))
			}
		}
	})
	if b, f := Bytes([]api.Ask{}); len(b) != 0 || f != (api.Fault{}) {
		t.Errorf("of none comes %q, %s", b, fault(f))
	}
}

// Room behind bytes is none of them, though what they have too little of stands there.
func TestBytesAreOnlyRead(t *testing.T) {
	made(2000, func(m *maker) {
		b := m.broken()
		at := m.Intn(len(b) + 1)
		short := wide(b[:at], b[at:]...)
		was := append([]byte(nil), whole(short)...)
		want, fw := Parse(append([]byte(nil), b[:at]...))
		for range 2 {
			if got, f := Parse(short); !same(got, want) || f != fw {
				t.Fatalf("of %q, and behind it %q, comes %v, %s, not %v, %s", b[:at], b[at:], got, fault(f), want, fault(fw))
			}
		}
		if !bytes.Equal(whole(short), was) {
			t.Fatalf("who reads %q changes it, or room behind it", b[:at])
		}
	})
	for _, b := range [][]byte{nil, {}} {
		if l, f := Parse(b); len(l) != 0 || f != (api.Fault{}) {
			t.Errorf("of no bytes comes %v, %s", l, fault(f))
		}
	}
}

// wipe changes a list, with the room behind it.
func wipe[T any](l []T) {
	var none T
	for i := range whole(l) {
		whole(l)[i] = none
	}
}

// What is written is the caller's, with the room behind it; who changes questions changes nothing of it.
func TestWrittenIsNew(t *testing.T) {
	made(1000, func(m *maker) {
		l := wideAsks(m.asks())
		was := kept(l)
		want, _ := Bytes(l)
		got, _ := Bytes(l)
		wipe(want)
		if !reflect.DeepEqual(kept(l), was) {
			t.Fatalf("who changes what comes of %v changes it", was)
		}
		want, _ = Bytes(l)
		for _, a := range l {
			wipe(a.Args)
		}
		wipe(l)
		if !bytes.Equal(got, want) {
			t.Fatalf("who changes %v changes what came of it", was)
		}
	})
}

// What is read is the caller's, and each list of it by itself; who changes bytes changes nothing of it.
func TestReadIsNew(t *testing.T) {
	made(1000, func(m *maker) {
		l := m.asks()
		b, _ := Bytes(l)
		was := append([]byte(nil), whole(b)...)
		got, _ := Parse(b)
		for _, a := range got {
			wipe(whole(a.Args)[len(a.Args):])
		}
		if !same(got, l) {
			t.Fatalf("of %q comes %v, in which lists lie in others", b, got)
		}
		again, _ := Parse(b)
		for _, a := range got {
			wipe(a.Args)
		}
		wipe(got)
		if !bytes.Equal(whole(b), was) || !same(again, l) {
			t.Fatalf("who changes what comes of %q changes it", was)
		}
		wipe(b)
		if !same(again, l) {
			t.Fatalf("who changes %q changes what came of it", was)
		}
	})
}

// One sign over and over, ever longer numbers, and counts of which there is nothing: it always ends, and soon.
func TestGreatBytes(t *testing.T) {
	const many = 1 << 22
	for _, s := range []string{"0", "1", "-", " ", "\n", "x", "\x00", "1 ", "1\n", "1 1 ", "0 1 0 0 0 0"} {
		b := []byte(strings.Repeat(s, many/len(s)))
		if l, f := Parse(b); len(l) != 0 || f != (api.Fault{Err: api.ErrForm}) {
			t.Errorf("of %q over and over come %d, %s", s, len(l), fault(f))
		}
		for _, ahead := range []string{"1 1 0 0 ", "1 1 0 0 5 0\n", "1 1 0 0 9223372036854775807 0\n", "1 1 0 0 0 9223372036854775807\n", "1 1 0 0 9223372036854775807 9223372036854775807\n"} {
			if l, f := Parse([]byte(ahead + string(b))); len(l) != 0 || f.Err == api.OK {
				t.Errorf("of %q, and %q over and over, come %d, %s", ahead, s, len(l), fault(f))
			}
		}
	}
}

func TestGreatLists(t *testing.T) {
	const many = 200000
	b := []byte(strings.Repeat("1 1 0 0 0 0\n", many))
	l, f := Parse(b)
	if len(l) != many || f != (api.Fault{}) {
		t.Fatalf("of %d come %d, %s", many, len(l), fault(f))
	}
	if again, f := Bytes(l); !bytes.Equal(again, b) || f != (api.Fault{}) {
		t.Errorf("%d are written otherwise, %s", many, fault(f))
	}
	l[many-1].Kind = math.MinInt
	if again, f := Bytes(l); len(again) != 0 || f != (api.Fault{Err: api.ErrKind, At: many - 1}) {
		t.Errorf("with the last one wrong come %d bytes, %s", len(again), fault(f))
	}
	b[len(b)-1] = ' '
	if l, f := Parse(b); len(l) != 0 || f != (api.Fault{Err: api.ErrForm, At: len(b) - 12}) {
		t.Errorf("with the last one wrong come %d, %s", len(l), fault(f))
	}
	if err := Wrong(api.Ask{Kind: 1, Text: long(1 << 24), Args: make([]int, 1<<22)}); err != api.ErrMany {
		t.Errorf("of a great one is told %d", err)
	}
}
