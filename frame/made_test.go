package frame

import (
	"bytes"
	"math"
	"math/rand"
	"testing"

	"undertone/api"
)

// maker makes questions, and bytes that are ones, or nearly.
type maker struct{ *rand.Rand }

func (m *maker) number() int {
	switch m.Intn(8) {
	case 0:
		return math.MaxInt64 - m.Intn(2)
	case 1:
		return math.MinInt64 + m.Intn(2)
	case 2:
		return int(m.Uint64())
	case 3:
		return 0
	}
	return m.Intn(25) - 12
}

// text has bytes of which many are written in questions too.
func (m *maker) text() string {
	if m.Intn(12) == 0 {
		return string(m.some(api.MaxText-m.Intn(3), "0123456789- \n"))
	}
	if m.Intn(4) == 0 {
		b, _ := Bytes([]api.Ask{{ID: m.number(), Kind: 1 + m.Intn(9), Args: make([]int, m.Intn(3))}})
		return string(b)
	}
	return string(m.some(m.Intn(12), "012- \nxf?\x00\xff"))
}

func (m *maker) some(n int, of string) []byte {
	b := make([]byte, n)
	for i := range b {
		b[i] = of[m.Intn(len(of))]
	}
	return b
}

func (m *maker) ask() api.Ask {
	a := api.Ask{ID: m.number(), Kind: 1 + m.Intn(9), From: m.number(), To: m.number(), Text: m.text()}
	for range m.Intn(api.MaxParams + 1) {
		a.Args = append(a.Args, m.number())
	}
	return a
}

func (m *maker) asks() []api.Ask {
	var l []api.Ask
	for range m.Intn(6) {
		l = append(l, m.ask())
	}
	return l
}

// wrong has a question with which mostly something is wrong.
func (m *maker) wrong() api.Ask {
	a := m.ask()
	if m.Intn(2) == 0 {
		a.Kind = m.number()
	}
	if m.Intn(2) == 0 {
		a.Args = make([]int, api.MaxParams+m.Intn(4))
	}
	if m.Intn(2) == 0 {
		a.Text = long(api.MaxText + m.Intn(3))
	}
	return a
}

// broken has bytes of questions in which some are left out, and others put in.
func (m *maker) broken() []byte {
	var b []byte
	for range 1 + m.Intn(3) {
		b = put(b, m.ask())
	}
	if m.Intn(3) == 0 {
		b = put(b, m.wrong())
		b = put(b, m.ask())
	}
	for range m.Intn(3) {
		at := m.Intn(len(b) + 1)
		if m.Intn(2) == 0 {
			at = min(at, m.Intn(20))
		}
		behind := min(len(b), at+m.Intn(2)*m.Intn(4))
		b = append(append(append([]byte(nil), b[:at]...), m.some(m.Intn(2)*m.Intn(3), "0123456789- \nx")...), b[behind:]...)
	}
	if m.Intn(6) == 0 {
		b = b[:m.Intn(len(b)+1)]
	}
	return b
}

// made hands on as many makers.
func made(n int, use func(m *maker)) {
	for seed := range n {
		use(&maker{rand.New(rand.NewSource(int64(seed)))})
	}
}

// What is written is read, as what it was; and patterns read the same.
func TestWrittenIsRead(t *testing.T) {
	made(4000, func(m *maker) {
		l := m.asks()
		b, f := Bytes(l)
		if f != (api.Fault{}) {
			t.Fatalf("of %v is told %s", l, fault(f))
		}
		if got, f := Parse(b); !same(got, l) || f != (api.Fault{}) {
			t.Fatalf("of %v comes %q, and of that %v, %s", l, b, got, fault(f))
		}
		if got, f := byPatterns(string(b)); !same(got, l) || f != (api.Fault{}) {
			t.Fatalf("of %v comes %q, and by patterns that is %v, %s", l, b, got, fault(f))
		}
	})
}

// The bytes of questions are those of each of them, one behind the other.
func TestOneByOne(t *testing.T) {
	made(2000, func(m *maker) {
		l := m.asks()
		var want []byte
		for i := range l {
			b, _ := Bytes(l[i : i+1])
			want = append(want, b...)
		}
		if got, f := Bytes(l); !bytes.Equal(got, want) || f != (api.Fault{}) {
			t.Fatalf("of %v comes %q, %s, not %q", l, got, fault(f), want)
		}
	})
}

func TestWrongOnesMade(t *testing.T) {
	told := map[api.Errno]int{}
	made(2000, func(m *maker) {
		l := m.asks()
		var want api.Fault
		for range m.Intn(3) {
			l = append(l, m.wrong())
		}
		for i := len(l) - 1; i >= 0; i-- {
			err := wrongWith(l[i])
			if got := Wrong(l[i]); got != err {
				t.Fatalf("of %v is told %d, not %d", l[i], got, err)
			}
			if err != api.OK {
				want = api.Fault{Err: err, At: i}
			}
		}
		told[want.Err]++
		if b, f := Bytes(l); f != want || (f != (api.Fault{}) && len(b) > 0) {
			t.Fatalf("of %v come %d bytes, %s, not %s", l, len(b), fault(f), fault(want))
		}
	})
	for _, err := range []api.Errno{api.OK, api.ErrKind, api.ErrMany, api.ErrMuch} {
		if told[err] < 50 {
			t.Errorf("with error %d %d times those that are made are too poor", err, told[err])
		}
	}
}

// held reads bytes, and holds what comes against what patterns read; what is read is written as it was.
func held(t *testing.T, b []byte) api.Fault {
	t.Helper()
	got, f := Parse(b)
	want, fw := byPatterns(string(b))
	if f != fw || !same(got, want) {
		t.Fatalf("of %.200q comes %v, %s, not %v, %s", b, got, fault(f), want, fault(fw))
	}
	if f == (api.Fault{}) {
		if again, f := Bytes(got); !bytes.Equal(again, b) || f != (api.Fault{}) {
			t.Fatalf("%.200q is read, and written %.200q, %s", b, again, fault(f))
		}
	}
	return f
}

func TestBroken(t *testing.T) {
	told, behind := map[api.Errno]int{}, 0
	made(30000, func(m *maker) {
		f := held(t, m.broken())
		told[f.Err]++
		if f.At > 0 {
			behind++
		}
	})
	for _, err := range []api.Errno{api.OK, api.ErrForm, api.ErrKind, api.ErrMany, api.ErrMuch} {
		if told[err] < 300 {
			t.Errorf("with error %d %d times those that are made are too poor", err, told[err])
		}
	}
	if behind < 3000 {
		t.Errorf("with %d behind others those that are made are too poor", behind)
	}
}

// Each byte otherwise, left out, or with each other one ahead of it.
func TestEachByteOtherwise(t *testing.T) {
	for _, c := range pairs() {
		for k := range min(len(c.s), 60) {
			held(t, []byte(c.s[:k]+c.s[k+1:]))
			for n := range 256 {
				one := string([]byte{byte(n)})
				held(t, []byte(c.s[:k]+one+c.s[k+1:]))
				held(t, []byte(c.s[:k]+one+c.s[k:]))
			}
		}
	}
}

// All short ends of a question, of all signs that it may have.
func TestAllShort(t *testing.T) {
	const signs = "01-6 \nx"
	read := 0
	var all func(b []byte, more int)
	all = func(b []byte, more int) {
		if held(t, b) == (api.Fault{}) {
			read++
		}
		if more == 0 {
			return
		}
		for _, s := range []byte(signs) {
			all(append(b[:len(b):len(b)], s), more-1)
		}
	}
	for _, ahead := range []string{"", "1 1 0 0 ", "-1 6 1 10 1", "1 1 0 0 0 0\n1 9 0 0 ", "2 8 0 0 2 1\n"} {
		all([]byte(ahead), 6)
	}
	if read < 100 {
		t.Errorf("%d are read, and they are too poor", read)
	}
}
