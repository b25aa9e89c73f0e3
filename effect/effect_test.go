package effect

import (
	"fmt"
	"math"
	"strings"
	"testing"

	"undertone/api"
	"undertone/parse"
)

// read has the file of s, which must be small enough to be one.
func read(t *testing.T, s string) api.File {
	t.Helper()
	f, err := parse.File(s)
	if err != api.OK {
		t.Fatalf("File(%q) tells %d", s, err)
	}
	return f
}

// owns has, item by item, to what each sends, and what it calls.
func owns(f api.File) string {
	var l []string
	for _, it := range f.Items {
		sends, calls := Own(it)
		l = append(l, strings.TrimSpace(strings.Join(sends, " ")+": "+strings.Join(calls, " ")))
	}
	return strings.Join(l, " / ")
}

func alls(f api.File) string {
	var l []string
	for _, names := range All(f) {
		l = append(l, strings.Join(names, " "))
	}
	return strings.Join(l, " / ")
}

// told has all items' diags, item by item.
func told(t *testing.T, f api.File) string {
	t.Helper()
	var items []string
	for i := range f.Items {
		var l []string
		for _, d := range Diags(f, i) {
			if (d != api.Diag{Err: api.ErrSend, Name: d.Name}) {
				t.Errorf("a diag is %v", d)
			}
			l = append(l, d.Name)
		}
		items = append(items, strings.Join(l, " "))
	}
	return strings.Join(items, " / ")
}

type row struct{ s, own, all, diags string }

// tells holds rows against what must be told of their texts.
func tells(t *testing.T, rows []row) {
	t.Helper()
	for _, c := range rows {
		f := read(t, c.s)
		if got := owns(f); got != c.own {
			t.Errorf("of %q each by itself is\n%s, not\n%s", c.s, got, c.own)
		}
		if got := alls(f); got != c.all {
			t.Errorf("of %q all is\n%s, not\n%s", c.s, got, c.all)
		}
		if got := told(t, f); got != c.diags {
			t.Errorf("of %q is wrong\n%s, not\n%s", c.s, got, c.diags)
		}
	}
}

func TestSends(t *testing.T) {
	tells(t, []row{
		{"", "", "", ""},
		{"# nothing", "", "", ""},
		{"chan c: {};", ":", "", ""},
		{"fn f(): {} { }", ":", "", ""},
		{"chan c: {};\nfn f(): {} sends c { send c 1; }", ": / c:", " / c", " / "},
		{"chan c: {};\nfn f(): {} { send c 1; }", ": / c:", " / c", " / c"},
		// To say more than is sent to is right.
		{"chan c: {};\nfn f(): {} sends c { }", ": / :", " / ", " / "},
		{"chan c: {};\nfn f(): {} sends c, d, c, d { send d 1; send e 2; }", ": / d e:", " / d e", " / e"},
		// Rising byte by byte, and each once.
		{"fn f(): {} { send b 1; send a 1; send c 1; send b 1; send B 1; send a10 1; send a9 1; send _ 1; send ab 1; }",
			"B _ a a10 a9 ab b c:", "B _ a a10 a9 ab b c", "B _ a a10 a9 ab b c"},
		{"fn f(): {} sends ab, c, b { send b 1; send a 1; send c 1; send ab 1; }", "a ab b c:", "a ab b c", "a"},
		// Whether there is such a channel is not asked here, nor what else is called so.
		{"fn f(x: {}): {} { send x 1; send f 1; send none 1; let send2 = 1; }\nchan f: {};", "f none x: / :", "f none x / ", "f none x / "},
		{"chan c: {};\nchan c: {a};\nfn f(): {} { send c 1; }", ": / : / c:", " /  / c", " /  / c"},
		// Sends that are said are not sent, and other names are no sends.
		{"fn f(x: {}): {} sends q { x; x = x; let y = x; return x; }", ":", "", ""},
	})
}

// In all kinds of statements, in blocks of any depth, and in all parts of expressions.
func TestWherever(t *testing.T) {
	deep := strings.Repeat("if d() { ", api.MaxNest-1) + "send q w();" + strings.Repeat(" }", api.MaxNest-1)
	tells(t, []row{
		{"fn f(): {} { if 1 { send a 1; } else { send b 1; } while 1 { send c 1; } }", "a b c:", "a b c", "a b c"},
		{"fn f(): {} { while 1 { if 1 { while 1 { send a 1; } } else { if 1 { } else { send b 1; } } } }", "a b:", "a b", "a b"},
		{"fn f(): {} { let x = l(); let y: {a} = m(); x = s(); if i() { } else { } while w() { } send q e(); return r(); d(); }",
			"q: d e i l m r s w", "q", "q"},
		{"fn f(): {} { if 1 { a(); } else { b(); } while 1 { c(); } }", ": a b c", "", ""},
		{"fn f(): {} { return a(b(c()), 1, d(e(), x + g(1))) * (h() - (i() < j())) = k(); }", ": a b c d e g h i j k", "", ""},
		{"fn f(): {} { f() + b(); x + z(); }", ": b f z", "", ""},
		{"fn f(): {} {" + deep + "}", "q: d w", "q", "q"},
		// A local may be called as a function is, and one without a call is none.
		{"fn f(g: {}): {} { let h = g; h = g; h; return f + g + h; }", ":", "", ""},
		{"fn f(g: {}): {} { g(g); }\nfn g(x: {}): {} { send q x; }", ": g / q:", "q / q", "q / q"},
	})
}

func TestCalls(t *testing.T) {
	tells(t, []row{
		// Over and over: of what is called, and what that calls, wherever it stands.
		{"fn f(): {} { g(); }\nfn g(): {} { send b 1; h(); }\nfn h(): {} { send a 1; }", ": g / b: h / a:", "a b / a b / a", "a b / a b / a"},
		{"fn h(): {} sends a { send a 1; }\nfn g(): {} sends b { send b 1; h(); }\nfn f(): {} sends a, b { g(); }", "a: / b: h / : g", "a / a b / a b", " / a / "},
		// What one says it sends to, and doesn't, is not sent; where it is called, nothing is taken to be said.
		{"fn f(): {} { g(); }\nfn g(): {} sends c, d { send c 1; }", ": g / c:", "c / c", "c / "},
		{"fn f(): {} sends c { g(); }\nfn g(): {} { send c 1; }", ": g / c:", "c / c", " / c"},
		// Who is called doesn't send where its caller does.
		{"fn f(): {} { send c 1; g(); }\nfn g(): {} { }", "c: g / :", "c / ", "c / "},
		// Two ways to one.
		{"fn f(): {} { g(); h(); }\nfn g(): {} { k(); }\nfn h(): {} { k(); send d 1; }\nfn k(): {} { send c 1; }", ": g h / : k / d: k / c:", "c d / c / c d / c", "c d / c / c d / c"},
		// How many arguments there are is not asked here.
		{"fn f(): {} { g(1, 2, 3); }\nfn g(): {} { send c 1; }", ": g / c:", "c / c", "c / c"},
		// That it is never run isn't either.
		{"fn f(): {} { return 1; if 0 { g(); } }\nfn g(): {} { send c 1; }", ": g / c:", "c / c", "c / c"},
	})
}

// Functions that call themselves, or one another, have what all of them send to.
func TestRings(t *testing.T) {
	tells(t, []row{
		{"fn f(): {} { f(); }", ": f", "", ""},
		{"fn f(): {} { send c f(f()); }", "c: f", "c", "c"},
		{"fn f(): {} { send c 1; g(); }\nfn g(): {} { send d 1; f(); }", "c: g / d: f", "c d / c d", "c d / c d"},
		{"fn f(): {} sends d { g(); }\nfn g(): {} sends c { h(); send c 1; }\nfn h(): {} { f(); send d 1; }", ": g / c: h / d: f", "c d / c d / c d", "c / d / c d"},
		// Two rings, of which one leads to the other.
		{"fn a(): {} { b(); }\nfn b(): {} { a(); c(); send p 1; }\nfn c(): {} { d(); }\nfn d(): {} { c(); send q 1; }\nfn e(): {} { a(); }",
			": b / p: a c / : d / q: c / : a", "p q / p q / q / q / p q", "p q / p q / q / q / p q"},
		// One that leads into a ring is none of it.
		{"fn a(): {} { send z 1; b(); }\nfn b(): {} { b(); send p 1; }", "z: b / p: b", "p z / p", "p z / p"},
	})
}

func TestCallsOfNone(t *testing.T) {
	tells(t, []row{
		{"fn f(): {} { g(); send c 1; }", "c: g", "c", "c"},
		{"chan g: {};\nfn f(): {} { g(); }", ": / : g", " / ", " / "},
		{"fn f(): {} { g(h()); }\nfn h(): {} { send c 1; }", ": g h / c:", "c / c", "c / c"},
		// Names are whole ones.
		{"fn f(): {} { g(); G(); gg(); }\nfn g1(): {} { send c 1; }", ": G g gg / c:", " / c", " / c"},
		// What is no item is no function, whatever it says.
		{"x\nfn f(): {} { x(); }", ": / : x", " / ", " / "},
	})
}

// Of two functions of one name the first is called; the other one still has its own.
func TestTwoOfOneName(t *testing.T) {
	tells(t, []row{
		{"fn f(): {} { send a 1; }\nfn f(): {} { send b 1; }\nfn g(): {} { f(); }", "a: / b: / : f", "a / b / a", "a / b / a"},
		{"fn f(): {} { f(); send a 1; }\nfn f(): {} { f(); send b 1; }", "a: f / b: f", "a / a b", "a / a b"},
		{"fn g(): {} { f(); }\nfn f(): {} { }\nfn f(): {} { send b 1; g(); }", ": f / : / b: g", " /  / b", " /  / b"},
		{"chan f: {};\nfn g(): {} { f(); }\nfn f(): {} { send f 1; }", ": / : f / f:", " / f / f", " / f / f"},
	})
}

// Of texts that are broken what could be read is told, and empty names are left out.
func TestBroken(t *testing.T) {
	tells(t, []row{
		{"fn f(): {} { send 1; f(); }\nchan c: {};", ": f / :", " / ", " / "},
		{"fn f(): {} { send ; send let 1; send fn g(); send 7; send", ": g", "", ""},
		{"fn f(): {} { send 1; send c 1; send abcdefghijklm 2; }", "c:", "c", "c"},
		{"fn f(): {} sends , c { send 1; send c 1; send d 1; }", "c d:", "c d", "d"},
		{"fn f(): {} { send c", "c:", "c", "c"},
		{"fn f(): {} { g(", ": g", "", ""},
		{"fn f(): {} { g(h(+), , k(", ": g h k", "", ""},
		{"fn f(: { send c 1; }", ":", "", ""},
		// A function without a name sends too, and nobody calls it.
		{"fn (): {} { send c 1; f(); }\nfn f(): {} { send d 1; }", "c: f / d:", "c d / d", "c d / d"},
		{"fn let(): {} sends c { send c 1; send d 1; }\nfn f(): {} { let(); }", "c d: / :", "c d / ", "d / "},
		// What is no item has nothing.
		{"f() { send c 1; g(); }\nchan c: {} { send c 1; g(); }\nfn g(): {} { send c 1; }", ": / : / c:", " /  / c", " /  / c"},
		{"send c 1;", ":", "", ""},
		{"?", ":", "", ""},
	})
}

func TestDiagsOfNone(t *testing.T) {
	f := read(t, "fn f(): {} { send c 1; }\nchan c: {};\nx")
	for _, i := range []int{-1, 1, 2, 3, 99, math.MinInt, math.MaxInt} {
		if got := Diags(f, i); len(got) != 0 {
			t.Errorf("of item %d is wrong %v", i, got)
		}
	}
	for _, i := range []int{-1, 0, 1, math.MinInt, math.MaxInt} {
		for _, none := range []api.File{{}, {Items: []api.Item{}}} {
			if got := Diags(none, i); len(got) != 0 {
				t.Errorf("of item %d of none is wrong %v", i, got)
			}
		}
	}
	if got, want := fmt.Sprint(Diags(f, 0)), fmt.Sprint([]api.Diag{{Err: api.ErrSend, Name: "c"}}); got != want {
		t.Errorf("of item 0 is wrong %s, not %s", got, want)
	}
}

// chain has as many functions as there may be: each sends to a channel of its own, and calls the next one; the last one calls what it is told to.
func chain(last string) string {
	s := ""
	for i := range api.MaxItems {
		next := fmt.Sprintf("f%d()", i+1)
		if i == api.MaxItems-1 {
			next = last
		}
		s += fmt.Sprintf("fn f%d(): {} { send c%02d %s; }\n", i, i, next)
	}
	return s
}

func TestChain(t *testing.T) {
	all := All(read(t, chain("f0()")))
	for i, l := range all {
		if len(l) != api.MaxItems || l[0] != "c00" || l[len(l)-1] != fmt.Sprintf("c%02d", api.MaxItems-1) {
			t.Errorf("in a ring item %d has %v", i, l)
		}
	}
	for i, l := range All(read(t, chain("none()"))) {
		if len(l) != api.MaxItems-i || l[0] != fmt.Sprintf("c%02d", i) {
			t.Errorf("in a chain item %d has %v", i, l)
		}
	}
}
