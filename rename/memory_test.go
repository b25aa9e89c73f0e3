package rename

import (
	"fmt"
	"math"
	"math/rand"
	"reflect"
	"strings"
	"testing"

	"undertone/api"
	"undertone/parse"
)

// own copies a file with all that it has.
func own(f api.File) api.File {
	var out api.File
	for _, it := range f.Items {
		out.Items = append(out.Items, parse.Own(it))
	}
	return out
}

// all has what is told of many bytes.
func all(f api.File, size int) string {
	var l []any
	for at := -1; at <= size; at += 3 {
		def, ok := Def(f, at)
		l = append(l, def, ok)
	}
	return fmt.Sprint(l...)
}

// each hands on right texts and broken ones.
func each(t *testing.T, use func(s string, f api.File)) {
	t.Helper()
	rights(t, 100, func(m *maker, s string, f api.File) { use(s, f) })
	brokens(t, 200, func(m *maker, s string, f api.File) { use(s, f) })
}

func TestOnlyRead(t *testing.T) {
	each(t, func(s string, f api.File) {
		was, told := own(f), all(f, len(s))
		if !reflect.DeepEqual(f, was) {
			t.Fatalf("who asks of %q changes it", s)
		}
		if again := all(f, len(s)); again != told {
			t.Fatalf("of %q is told\n%s, and then\n%s", s, told, again)
		}
	})
}

// wide copies a list, with room behind it in which something stands.
func wide[T any](l []T, more T) []T { return append(append([]T{}, l...), more)[:len(l)] }

func behind[T any](l []T) T { return l[:len(l)+1][len(l)] }

func wideStmts(l []api.Stmt) []api.Stmt {
	out := wide(l, api.Stmt{Kind: api.StLet, Name: "behind"})
	for i := range out {
		out[i].Then, out[i].Else = wideStmts(out[i].Then), wideStmts(out[i].Else)
		out[i].E.Args = wide(out[i].E.Args, api.Expr{Kind: api.ExVar, Name: "x"})
	}
	return out
}

// Lists without entries are nil or not, and what stands behind lists is none of them.
func TestRoomBehind(t *testing.T) {
	each(t, func(s string, f api.File) {
		g := api.File{Items: wide(f.Items, api.Item{Kind: api.ItChan, Name: strings.Repeat("x", len(s))})}
		for i := range g.Items {
			it := &g.Items[i]
			it.Params = wide(it.Params, api.Param{Name: "behind"})
			it.Sends = wide(it.Sends, api.Ref{Name: "behind"})
			it.Body = wideStmts(it.Body)
			it.Diags = wide(it.Diags, api.Diag{Name: "behind"})
		}
		if got, want := all(g, len(s)), all(f, len(s)); got != want {
			t.Fatalf("with room behind lists of %q is told\n%s, not\n%s", s, got, want)
		}
		for _, it := range g.Items {
			if behind(it.Params).Name != "behind" || behind(it.Sends).Name != "behind" || behind(it.Body).Name != "behind" {
				t.Fatalf("room behind lists of %q is changed", s)
			}
		}
	})
	if got := all(api.File{Items: []api.Item{}}, 3); got != all(api.File{}, 3) {
		t.Errorf("of no items is told %s", got)
	}
}

// relabel has all labels be another one.
func relabel(l []api.Stmt, n int) {
	for i := range l {
		l[i].Label, l[i].Open = n, !l[i].Open
		relabel(l[i].Then, n)
		relabel(l[i].Else, n)
	}
}

func TestOtherLabels(t *testing.T) {
	each(t, func(s string, f api.File) {
		want := all(f, len(s))
		for _, n := range []int{0, 5, api.Top} {
			g := own(f)
			for i := range g.Items {
				it := &g.Items[i]
				it.Label = n
				for k := range it.Params {
					it.Params[k].Label = n
				}
				relabel(it.Body, n)
			}
			if got := all(g, len(s)); got != want {
				t.Fatalf("with labels %d of %q is told\n%s, not\n%s", n, s, got, want)
			}
		}
	})
}

// Other sends may stand anywhere: a use is told ahead of what is made where it stands.
func TestOtherSends(t *testing.T) {
	const s = "chan long: {};\nchan q: {};\nfn f(x: {}): {} { send q 1; let why = x; }"
	if got, want := defs(t, s, read(t, s)), "long1:long1 q1:q1 f1:f1 x1:x1 q2:q1 why1:why1 x2:x1"; got != want {
		t.Fatalf("of %q is made %s, not %s", s, got, want)
	}
	f := read(t, s)
	in := func(spot string) int { return place(t, s, spot) - f.Items[2].At }
	f.Items[2].Sends = []api.Ref{{Name: "q", At: in("f1")}, {Name: "none", At: in("x1")}, {Name: "q", At: in("why1") + 1}, {Name: "long", At: in("q2")}, {Name: "", At: in("x2")}}
	why, q2 := place(t, s, "why1"), place(t, s, "q2")
	for at, want := range map[int]int{
		place(t, s, "long1"): 5, place(t, s, "q1"): 20, place(t, s, "f1"): 20, place(t, s, "x1"): place(t, s, "x1"),
		why: why, why + 1: 20, why + 2: why, q2 - 1: -1, q2: 5, q2 + 1: 5, q2 + 3: 5, q2 + 4: -1, place(t, s, "x2"): place(t, s, "x1"),
	} {
		if def, ok := Def(f, at); def != max(0, want) || ok != (want >= 0) {
			t.Errorf("with other sends at byte %d stands what is made at %d, %v, not %d", at, def, ok, want)
		}
	}
	f.Items[2].Sends = []api.Ref{{Name: "q", At: math.MaxInt}, {Name: "q", At: math.MinInt}, {Name: strings.Repeat("q", 9999)}, {Name: "q", At: -f.Items[2].At - 5}}
	if def, ok := Def(f, -5); def != 20 || !ok {
		t.Errorf("of sends far off is made %d, %v", def, ok)
	}
	if def, ok := Def(f, math.MaxInt); def != 0 || ok {
		t.Errorf("where nothing stands is made %d, %v", def, ok)
	}
}

// Fields that a kind has not mean nothing.
func TestOtherFields(t *testing.T) {
	const s = "? x\nchan c: {};\nfn f(x: {}): {} { f(x); x = 1; let y = x; while x { y = x; } return x; }"
	f := read(t, s)
	want := defs(t, s, f)
	let := []api.Stmt{{Kind: api.StLet, Name: s}}
	f.Items[0].Name, f.Items[0].Body = s, let
	f.Items[1].Params, f.Items[1].Body = []api.Param{{Name: s}}, let
	body := f.Items[2].Body
	for i := range body {
		body[i].Else = let
		if body[i].Kind != api.StWhile {
			body[i].Then = let
		}
	}
	f.Items[0].Params = []api.Param{{Name: s}}
	if got := defs(t, s, f); got != want {
		t.Errorf("with fields that they have not of %q is made\n%s, not\n%s", s, got, want)
	}
}

// What is asked of To hangs on nothing that was asked ahead of it.
func TestToAgain(t *testing.T) {
	others(t, 100, func(m *maker, c taken) {
		if got, err := To(c.s, c.at, c.name); got != c.out || err != api.OK {
			t.Fatalf("byte %d of %q, called %s, comes to\n%q, and then\n%q, %d", c.at, c.s, c.name, c.out, got, err)
		}
	})
}

// Any bytes are a text, and any are no name.
func TestAnyBytes(t *testing.T) {
	m := &maker{Rand: rand.New(rand.NewSource(1))}
	for range 2000 {
		b := make([]byte, m.Intn(30))
		m.Read(b)
		if got, err := To(string(b), m.Intn(32)-1, string(b)); got != "" || err != api.ErrBad && err != api.ErrNone {
			t.Fatalf("of %q comes %q, %d", b, got, err)
		}
		if got, err := To("chan c: {};", 5, "c"+string(b)+"\xff"); got != "" || err != api.ErrName {
			t.Fatalf("called %q it comes to %q, %d", b, got, err)
		}
	}
}

// Great texts come to an end.
func TestGreat(t *testing.T) {
	block := strings.Repeat("let x=x;", api.MaxStmts-1)
	s := "fn f(x: {}): {} {" + strings.Repeat(block+"if x{", api.MaxNest-2) + block
	s = s[:min(len(s), api.MaxText)]
	f := read(t, s)
	for at := range s {
		if _, ok := Def(f, at); ok != strings.HasPrefix(s[at:], "x") && at > 3 {
			t.Errorf("at byte %d stands a name: %v", at, ok)
		}
	}
	if got, err := To(strings.Repeat("?", 1<<24), 3, "q"); got != "" || err != api.ErrMuch {
		t.Errorf("of a great text comes %.20q, %d", got, err)
	}
	if got, err := To("chan c: {};", 5, strings.Repeat("q", 1<<24)); got != "" || err != api.ErrName {
		t.Errorf("of a great name comes %.20q, %d", got, err)
	}
}
