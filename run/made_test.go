package run

import (
	"fmt"
	"math/rand"
	"reflect"
	"slices"
	"strconv"
	"strings"
	"testing"

	"undertone/api"
	"undertone/effect"
	"undertone/flow"
	"undertone/label"
	"undertone/lex"
	"undertone/names"
)

// made is a thing that a maker has made: a channel, a local, or a function.
type made struct {
	name   string
	label  int
	params []int
	sends  []made
	open   bool // of a local: it has label, or less
}

// maker writes texts with which nothing is wrong, as it knows of all that it has made whom it may be told.
type maker struct {
	*rand.Rand
	chans, fns []made
	fn         int // the one that is being made
	deep       int
	count      int
}

func (m *maker) pick(l ...string) string { return l[m.Intn(len(l))] }

func (m *maker) label() int { return []int{0, 0, 1, 1, 2, 3, 7}[m.Intn(7)] }

func (m *maker) name(s string) string {
	m.count++
	return s + strconv.Itoa(m.count)
}

// fitting are those of l that have a label that flows to n.
func fitting(l []made, n int) []made {
	var out []made
	for _, d := range l {
		if d.label|n == n {
			out = append(out, d)
		}
	}
	return out
}

func (m *maker) one(l []made) made { return l[m.Intn(len(l))] }

// callable are the functions that may be called under a label, where what comes of them may be told n. Most call only those behind themselves, so that they end.
func (m *maker) callable(under, n int) []made {
	var out []made
	for i, d := range m.fns {
		ok := d.label|n == n && (i > m.fn || m.Intn(12) == 0)
		for _, p := range d.params {
			ok = ok && under|p == p
		}
		for _, c := range d.sends {
			ok = ok && under|c.label == c.label && slices.ContainsFunc(m.fns[m.fn].sends, func(own made) bool { return own.name == c.name })
		}
		if ok {
			out = append(out, d)
		}
	}
	return out
}

func (m *maker) call(in []made, d made, under int) string {
	var args []string
	for _, p := range d.params {
		args = append(args, m.expr(in, under, p))
	}
	return d.name + "(" + strings.Join(args, ", ") + ")"
}

// expr is under a label, and may be told n.
func (m *maker) expr(in []made, under, n int) string {
	m.deep++
	defer func() { m.deep-- }()
	in = fitting(in, n)
	can := m.callable(under, n)
	switch k := m.Intn(9); {
	case k < 2 && m.deep < 7:
		return "(" + m.expr(in, under, n) + m.pick("=", " < ", " + ", "-", "*") + m.expr(in, under, n) + ")"
	case k < 4 && m.deep < 7 && len(can) > 0:
		return m.call(in, m.one(can), under)
	case k < 8 && len(in) > 0:
		return m.one(in).name
	}
	return m.pick("0", "1", "2", "7", "1000000000")
}

func (m *maker) block(in []made, under int, last string) string {
	m.deep++
	defer func() { m.deep-- }()
	s := "{ "
	for k := m.Intn(7); k > m.deep-2; k-- {
		var st string
		st, in = m.stmt(in, under)
		s += st + m.pick(" ", "\n  ")
	}
	return s + last + "}"
}

// stmt has the locals that there are behind it, too.
func (m *maker) stmt(in []made, under int) (string, []made) {
	to := under | m.label()
	switch m.Intn(9) {
	case 0, 1:
		d := made{name: m.name("v"), label: to, open: m.Intn(3) == 0}
		s := "let " + d.name
		if !d.open {
			s += ": " + label.Print(to)
		}
		return s + " = " + m.expr(in, under, to) + ";", append(slices.Clip(in), d)
	case 2, 3:
		var l []made
		for _, d := range in {
			if under|d.label == d.label && !d.open {
				l = append(l, d)
			}
		}
		if len(l) > 0 {
			d := m.one(l)
			return d.name + " = " + m.expr(in, under, d.label) + ";", in
		}
	case 4, 5:
		for _, d := range m.fns[m.fn].sends {
			if under|d.label == d.label && m.Intn(2) == 0 {
				return "send " + d.name + " " + m.expr(in, under, d.label) + ";", in
			}
		}
	case 6:
		return "if " + m.expr(in, under, to) + " " + m.block(in, to, "") + m.pick("", " else "+m.block(in, to, "")), in
	case 7:
		return m.while(in, under, to)
	}
	if to = m.fns[m.fn].label; under|to == to {
		return "return " + m.expr(in, under, to) + ";", in
	}
	return "", in
}

// while ends mostly: it has a local of its own, that rises.
func (m *maker) while(in []made, under, to int) (string, []made) {
	d := made{name: m.name("i"), label: to}
	s := "let " + d.name + ": " + label.Print(to) + " = 0; while " + d.name + " < " + m.expr(in, to, to) + " "
	in = append(slices.Clip(in), d)
	// Only now and then the block may set it.
	inner := in
	if m.Intn(6) > 0 {
		inner = in[:len(in)-1]
	}
	return s + m.block(inner, to, d.name+" = "+d.name+" + 1; "), in
}

func (m *maker) function(i int) string {
	m.fn = i
	d := m.fns[i]
	var params, sends []string
	var in []made
	for _, n := range d.params {
		p := made{name: m.name("p"), label: n}
		in = append(in, p)
		params = append(params, p.name+": "+label.Print(n))
	}
	for _, c := range d.sends {
		sends = append(sends, c.name)
	}
	s := "fn " + d.name + "(" + strings.Join(params, ", ") + "): " + label.Print(d.label)
	if len(sends) > 0 {
		s += " sends " + strings.Join(sends, ", ")
	}
	return s + " " + m.block(in, 0, m.pick("", "return "+m.expr(in, 0, d.label)+"; ")) + "\n"
}

func (m *maker) text() string {
	for range 1 + m.Intn(4) {
		m.chans = append(m.chans, made{name: m.name("c"), label: m.label()})
	}
	for range 1 + m.Intn(5) {
		d := made{name: m.name("f"), label: m.label()}
		for range m.Intn(4) {
			d.params = append(d.params, m.label())
		}
		for _, c := range m.chans {
			if m.Intn(3) > 0 {
				d.sends = append(d.sends, c)
			}
		}
		m.fns = append(m.fns, d)
	}
	s := m.pick("", "# x\n")
	for i := range m.fns {
		s += m.function(i)
	}
	for _, c := range m.chans {
		s += "chan " + c.name + ": " + label.Print(c.label) + ";\n"
	}
	return s
}

// rights hands on many texts with which nothing is wrong.
func rights(t *testing.T, n int, use func(m *maker, s string, f api.File)) {
	t.Helper()
	for seed := range n {
		m := &maker{Rand: rand.New(rand.NewSource(int64(seed)))}
		if s := m.text(); len(s) <= api.MaxText {
			use(m, s, read(t, s))
		}
	}
}

func (m *maker) broken() string {
	s := m.text()
	for range 1 + m.Intn(3) {
		l := lex.Tokens(s)
		k := l[m.Intn(len(l))]
		with := m.pick("", "(", "}", ";", "+", " c1 ", " f2 ", " v3 ", "{a}", "1", "?", "\nfn ", k.Text)
		if m.Intn(2) == 0 {
			alike := slices.DeleteFunc(slices.Clone(l), func(o api.Token) bool { return o.Kind != k.Kind || lex.Name(o.Text) != lex.Name(k.Text) })
			s = s[:k.At] + alike[m.Intn(len(alike))].Text + s[k.At+len(k.Text):]
			continue
		}
		s = s[:k.At] + with + s[k.At+m.Intn(2)*len(k.Text):]
	}
	return s[:min(len(s), api.MaxText)]
}

func (m *maker) number() int {
	switch m.Intn(5) {
	case 0:
		return int(m.Uint64())
	case 1:
		return []int{-1 << 63, 1<<63 - 1, -1, 1 << 32}[m.Intn(4)]
	}
	return m.Intn(6)
}

func (m *maker) args(n int) []int {
	out := make([]int, n)
	for i := range out {
		out[i] = m.number()
	}
	return out
}

// same holds runs against each other; nil and no events are the same.
func same(a, b api.Ran) bool {
	return a.N == b.N && a.Err == b.Err && a.Steps == b.Steps && slices.Equal(a.Events, b.Events)
}

// What a run comes to is what a machine that knows no statements comes to (see machine_test.go).
func TestByMachine(t *testing.T) {
	ends := map[api.Errno]int{}
	sent, much := 0, 0
	rights(t, 2000, func(m *maker, s string, f api.File) {
		if l := All(f); len(l) > 0 {
			t.Fatalf("of %q is wrong %s", s, places(s, l[:1]))
		}
		for i, it := range f.Items {
			if it.Kind != api.ItFn {
				continue
			}
			for range 2 {
				args := m.args(len(it.Params))
				got, want := Run(f, it.Name, args), byMachine(f, i, args)
				if !same(got, want) {
					t.Fatalf("%s%v of %q comes to\n%v, not\n%v", it.Name, args, s, got, want)
				}
				ends[got.Err]++
				sent += len(got.Events)
				if got.Steps > 500 {
					much++
				}
			}
		}
	})
	if ends[api.OK] < 5000 || ends[api.ErrFuel] < 200 || ends[api.ErrDeep] < 200 || len(ends) != 3 || sent < 5000 || much < 100 {
		t.Errorf("with ends %v, %d sent and %d of many steps the texts are too poor", ends, sent, much)
	}
}

// other has other numbers for parameters that who may hear n may not hear.
func other(m *maker, it api.Item, args []int, n int) []int {
	out := slices.Clone(args)
	for i, p := range it.Params {
		if p.Label|n != n {
			out[i] = m.number()
		}
	}
	return out
}

// No secret is told: who may hear n hears the same, whatever the numbers are that he may not hear.
func TestNoSecretIsTold(t *testing.T) {
	asked, apart := 0, 0
	rights(t, 2000, func(m *maker, s string, f api.File) {
		for _, it := range f.Items {
			if it.Kind != api.ItFn || len(it.Params) == 0 {
				continue
			}
			for _, n := range []int{0, 1, 2, 3} {
				args := m.args(len(it.Params))
				more := other(m, it, args, n)
				a, b := Run(f, it.Name, args), Run(f, it.Name, more)
				if a.Err != api.OK || b.Err != api.OK {
					continue
				}
				x, y := Seen(f, a.Events, n), Seen(f, b.Events, n)
				if !slices.Equal(x, y) || it.Label|n == n && a.N != b.N {
					t.Fatalf("who may hear %d hears of %s%v of %q\n%v, and of %v\n%v", n, it.Name, args, s, x, more, y)
				}
				if len(x) > 0 {
					asked++
				}
				if !slices.Equal(a.Events, b.Events) {
					apart++
				}
			}
		}
	})
	if asked < 1000 || apart < 300 {
		t.Errorf("with %d heard, and %d that have something to hide, the texts are too poor", asked, apart)
	}
}

// byChapters has what Diags must tell, as the other chapters tell it.
func byChapters(f api.File, i int) []api.Diag {
	var out []api.Diag
	for _, l := range [][]api.Diag{f.Items[i].Diags, names.Diags(f, i), effect.Diags(f, i), flow.Diags(f, i)} {
		for _, d := range l {
			out = append(out, api.Diag{From: f.Items[i].At + d.From, To: f.Items[i].At + d.To, Err: d.Err, Name: d.Name})
		}
	}
	return out
}

// Of texts with something wrong that is told, and nothing runs.
func TestBroken(t *testing.T) {
	bad, fine := 0, 0
	kinds := map[api.Errno]int{}
	for seed := range 3000 {
		m := &maker{Rand: rand.New(rand.NewSource(int64(seed)))}
		s := m.broken()
		f := read(t, s)
		var all []api.Diag
		for i := range f.Items {
			want := byChapters(f, i)
			if got := Diags(f, i); !slices.Equal(got, want) {
				t.Fatalf("of item %d of %q is wrong\n%v, not\n%v", i, s, got, want)
			}
			all = append(all, want...)
		}
		if got := All(f); !slices.Equal(got, all) {
			t.Fatalf("of %q is wrong\n%v, not\n%v", s, got, all)
		}
		for _, d := range all {
			kinds[d.Err]++
			if d.From < 0 || d.From > d.To || d.To > len(s) {
				t.Fatalf("of %q something is wrong at %v", s, d)
			}
		}
		for _, name := range []string{"f2", "f3", "c1", ""} {
			got := Run(f, name, nil)
			if (got.Err == api.ErrBad) != (len(all) > 0) {
				t.Fatalf("with %v wrong %s of %q comes to %v", all, name, s, got)
			}
			if got.Err != api.OK && !reflect.DeepEqual(got, api.Ran{Err: got.Err}) {
				t.Fatalf("beside an error %v is told", got)
			}
		}
		if len(all) > 0 {
			bad++
		} else {
			fine++
		}
	}
	if bad < 2000 || fine < 100 || kinds[api.ErrNone] < 1000 || kinds[api.ErrFlow] < 300 || kinds[api.ErrSend] < 40 {
		t.Errorf("with %d bad, %d fine and %v the texts are too poor", bad, fine, kinds)
	}
}

// What is heard is what channels one by one let be heard.
func TestSeenByChannels(t *testing.T) {
	rights(t, 500, func(m *maker, s string, f api.File) {
		var l []api.Event
		for range m.Intn(20) {
			name := m.pick("c1", "c2", "c3", "c4", "f2", "f5", "zz", "")
			l = append(l, api.Event{Chan: name, N: m.number()})
		}
		for n := range 8 {
			var want []api.Event
			for _, e := range l {
				for _, it := range f.Items {
					if it.Kind == api.ItChan && it.Name == e.Chan && it.Label&n == it.Label {
						want = append(want, e)
					}
				}
			}
			if got := Seen(f, l, n); !slices.Equal(got, want) {
				t.Fatalf("of %v of %q who may hear %d hears\n%v, not\n%v", l, s, n, got, want)
			}
		}
	})
}

// Who hears more hears all that others hear; and all of it is heard by who may hear everything.
func TestSeenRises(t *testing.T) {
	rights(t, 1000, func(m *maker, s string, f api.File) {
		for _, it := range f.Items {
			if it.Kind != api.ItFn {
				continue
			}
			r := Run(f, it.Name, m.args(len(it.Params)))
			if got := Seen(f, r.Events, api.Top); fmt.Sprint(got) != fmt.Sprint(r.Events) {
				t.Fatalf("of all that %s of %q sends, %v, %v is heard", it.Name, s, r.Events, got)
			}
			for n := range 8 {
				less := Seen(f, r.Events, n)
				if got := Seen(f, Seen(f, r.Events, n|m.Intn(8)), n); !slices.Equal(got, less) {
					t.Fatalf("of %v of %q is heard %v, and of what others hear %v", r.Events, s, less, got)
				}
			}
		}
	})
}
