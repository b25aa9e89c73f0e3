package names

import (
	"fmt"
	"math"
	"strings"
	"testing"

	"undertone/api"
	"undertone/lex"
	"undertone/parse"
)

// read has the file of s, which must be small enough to be one.
func read(t *testing.T, s string) api.File {
	t.Helper()
	f, err := parse.File(s)
	if err != api.OK {
		t.Fatalf("File(%q) tells %d", s, err)
	}
	return f
}

// spot tells byte at of s by the token that begins there, and how many of its text there are up to it: `y2` is the second y.
func spot(s string, at int) string {
	seen := map[string]int{}
	for _, t := range lex.Tokens(s) {
		seen[t.Text]++
		if t.At == at {
			return fmt.Sprint(t.Text, seen[t.Text])
		}
	}
	return fmt.Sprint("byte ", at)
}

func word(err api.Errno) string {
	switch err {
	case api.ErrNone:
		return "none"
	case api.ErrName:
		return "name"
	case api.ErrMany:
		return "many"
	}
	return fmt.Sprint("error ", int(err))
}

// told has all items' diags, item by item, with `/` between.
func told(t *testing.T, s string, f api.File) string {
	t.Helper()
	var items []string
	for i, it := range f.Items {
		var l []string
		for _, d := range Diags(f, i) {
			from, to := it.At+d.From, it.At+d.To
			if d.Name == "" || from < 0 || to > len(s) || s[from:to] != d.Name {
				t.Errorf("of %q a diag %v doesn't stand where its name does", s, d)
				continue
			}
			l = append(l, word(d.Err)+" "+spot(s, from))
		}
		items = append(items, strings.Join(l, ", "))
	}
	return strings.Join(items, " / ")
}

// meant has all uses, and where what they mean is made.
func meant(t *testing.T, s string, f api.File) string {
	t.Helper()
	var l []string
	for _, u := range Uses(f) {
		if u.From < 0 || u.From >= u.To || u.To > len(s) || u.Def < 0 || !strings.HasPrefix(s[u.Def:], s[u.From:u.To]) {
			t.Errorf("of %q a use %v isn't of a name that is made there", s, u)
			continue
		}
		l = append(l, spot(s, u.From)+":"+spot(s, u.Def))
	}
	return strings.Join(l, " ")
}

type row struct{ s, diags, uses string }

// tells holds rows against what must be told of their texts.
func tells(t *testing.T, rows []row) {
	t.Helper()
	for _, c := range rows {
		f := read(t, c.s)
		if got := told(t, c.s, f); got != c.diags {
			t.Errorf("of %q is wrong:\n%s, not\n%s", c.s, got, c.diags)
		}
		if got := meant(t, c.s, f); got != c.uses {
			t.Errorf("of %q is used:\n%s, not\n%s", c.s, got, c.uses)
		}
	}
}

const sample = "chan out: {};\nfn f(x: {}): {} { return x; }\nfn (\nchan out: {a};\nfn out(): {} { }\nfn f(): {} { }\nfn g(): {} { }\n"

func TestFind(t *testing.T) {
	for _, c := range []struct {
		kind int
		name string
		want int
	}{
		{api.ItChan, "out", 0}, {api.ItFn, "out", 4}, {api.ItBad, "out", -1},
		{api.ItChan, "f", -1}, {api.ItFn, "f", 1}, {api.ItBad, "f", -1},
		{api.ItFn, "g", 6}, {api.ItFn, "x", -1}, {api.ItFn, "G", -1}, {api.ItFn, "ou", -1}, {api.ItFn, "out ", -1}, {api.ItFn, "\x00", -1},
		{api.ItChan, "", -1}, {api.ItFn, "", -1}, {api.ItBad, "", -1},
		{0, "f", -1}, {-1, "f", -1}, {4, "f", -1}, {math.MaxInt, "f", -1}, {math.MinInt, "f", -1}, {0, "", -1},
	} {
		if got := Find(read(t, sample), c.kind, c.name); got != c.want {
			t.Errorf("the first of kind %d and name %q is %d, not %d", c.kind, c.name, got, c.want)
		}
		if got := Find(api.File{}, c.kind, c.name); got != -1 {
			t.Errorf("in nothing the first of kind %d and name %q is %d", c.kind, c.name, got)
		}
	}
}

// Names that nobody could read are none either.
func TestFindBad(t *testing.T) {
	f := read(t, "x\nfn (\nchan : {};\nfn fn\nchan 1\nfn abcdefghijklm(): {} { }")
	for kind := range 5 {
		for _, name := range []string{"", "x", "fn", "1", "(", "abcdefghijklm"} {
			if got := Find(f, kind, name); got != -1 {
				t.Errorf("the first of kind %d and name %q is %d", kind, name, got)
			}
		}
	}
}

func TestItems(t *testing.T) {
	tells(t, []row{
		{"", "", ""},
		{"# nothing", "", ""},
		{"chan q: {};", "", ""},
		{"chan q: {};\nchan q: {a};\nchan r: {};\nchan q: {};", " / name q2 /  / name q3", ""},
		{"fn f(): {} { }\nfn f(): {} { }\nfn f(): {} { }", " / name f2 / name f3", ""},
		{"chan f: {};\nfn f(): {} { }", " / ", ""},
		{"fn f(): {} { }\nchan f: {};", " / ", ""},
		{"fn f(): {} { f(); }\nfn f(x: {}): {} { f(x); return y; }", " / name f3, many f4, none y1", "f2:f1 f4:f1 x2:x1"},
		// Of items that are none, and of those without a name, there may be many.
		{"x", "", ""},
		{"fn (\nfn (\nchan :\nchan :", " /  /  / ", ""},
		{"fn let(): {} { let x = x; }\nfn let(): {} { }", "none x2 / ", ""},
	})
}

// What is none has no name that could be made twice, whatever stands in it.
func TestBadItems(t *testing.T) {
	f := api.File{Items: []api.Item{{Kind: api.ItBad, Name: "x"}, {Kind: api.ItBad, Name: "x", Body: []api.Stmt{{Kind: api.StSet, Name: "y"}}}}}
	if got := Diags(f, 1); len(got) != 0 {
		t.Errorf("of what is no item is wrong %v", got)
	}
}

func TestParams(t *testing.T) {
	tells(t, []row{
		{"fn f(x: {}, y: {}): {} { return x + y; }", "", "x2:x1 y2:y1"},
		{"fn f(x: {}, x: {}, y: {}, x: {}): {} { return x; }", "name x2, name x3", "x4:x3"},
		// Items are no locals, and locals no items.
		{"chan q: {};\nfn f(f: {}, q: {}): {} sends q { send q f; send f q; f(q, f); q(q); }", " / none f4, none q7", "q3:q1 f3:f2 q4:q1 q5:q2 f5:f1 q6:q2 f6:f2 q8:q2"},
		{"chan q: {};\nfn f(): {} { return f + q; }", " / none f2, none q2", ""},
		{"fn f(x: {}): {} { }\nfn g(): {} { return x; }", " / none x2", ""},
		{"fn f(x: {}): {} { }\nfn g(x: {}): {} { return x; }", " / ", "x3:x2"},
		// One that has no name counts, and makes nothing.
		{"fn f(let: {}, fn: {}, x: {}): {} { f(1, 2, x); f(1); }", "many f3", "f2:f1 x2:x1 f3:f1"},
		{"fn f(: {}, : {}): {} { f(1, 2); }", "", "f2:f1"},
		// One without `:` is left out.
		{"fn f(x: {}, y): {} { f(x); return y; }", "none y2", "f2:f1 x2:x1"},
	})
}

func TestSends(t *testing.T) {
	tells(t, []row{
		{"chan q: {};\nchan r: {};\nfn f(): {} sends r, q { }", " /  / ", "r2:r1 q2:q1"},
		{"fn f(): {} sends q { }\nchan q: {};", " / ", "q1:q2"},
		{"chan q: {};\nfn f(): {} sends q, r, q, r, q { }", " / none r1, name q3, none r2, name r2, name q4", "q2:q1 q3:q1 q4:q1"},
		{"chan q: {};\nchan q: {};\nfn f(): {} sends q { send q 1; }", " / name q2 / ", "q3:q1 q4:q1"},
		{"fn f(): {} sends f { }", "none f2", ""},
		{"fn f(q: {}): {} sends q { let q = 1; }", "none q2, name q3", ""},
		{"chan q: {};\nfn f(): {} sends fn, q, 1 { }", " / ", "q2:q1"},
		{"fn f(): {} sends , , { }", "", ""},
		// A statement may send where the function doesn't say so.
		{"chan q: {};\nfn f(x: {}): {} { send q x; send r x; send q y; }", " / none r1, none y1", "x2:x1 q2:q1 x3:x1 q3:q1"},
		{"chan q: {};\nfn f(): {} { send 1; send let 1; send q; }", " / ", "q2:q1"},
		{"fn f(x: {}): {} { send x x; send f x; }", "none x2, none f2", "x3:x1 x4:x1"},
	})
}

func TestLocals(t *testing.T) {
	tells(t, []row{
		{"fn f(x: {}): {} { let y = x; y = f(y); }", "", "x2:x1 f2:f1 y3:y1 y2:y1"},
		{"fn f(): {} { let y = y; y = y; }", "none y2", "y4:y1 y3:y1"},
		{"fn f(): {} { y = 1; let y = 2; y = 3; }", "none y1", "y3:y2"},
		{"fn f(): {} { y = x; }", "none x1, none y1", ""},
		{"fn f(): {} { let y = 1; let y = y; return y; }", "name y2", "y3:y1 y4:y2"},
		{"fn f(x: {}): {} { x = x; let x = x; x = x; }", "name x4", "x3:x1 x2:x1 x5:x1 x7:x4 x6:x4"},
		{"fn f(): {} { let q: {a} = 1; return q; }", "", "q2:q1"},
		{"fn f(): {} { let = 1; let fn = 2; let = 3; return x; }", "none x1", ""},
		{"fn f(x: {}): {} { let y = x + ; z; y }", "none z1", "x2:x1 y2:y1"},
		{"fn f(x: {}): {} { return 1 + 2; x; ; 7; let", "", "x2:x1"},
	})
}

func TestBlocks(t *testing.T) {
	tells(t, []row{
		// What a block makes is there for the rest of it, in blocks within too, and not behind it.
		{"fn f(): {} { if 1 { let y = 1; y; while y { y = 2; } } y; }", "none y5", "y2:y1 y3:y1 y4:y1"},
		{"fn f(): {} { if 1 { let y = 1; } else { y = 2; let y = 3; y; } y = 4; }", "none y2, none y5", "y4:y3"},
		{"fn f(): {} { while y { let y = 1; } let y = 2; while y { y; } }", "none y1", "y4:y3 y5:y3"},
		// One that is made within hides one around it, up to its block's end.
		{"fn f(): {} { let y = 1; if y { y; let y = y; y; if y { let y = y; y; } y; } else { y; } y; }", "name y4, name y8",
			"y2:y1 y3:y1 y5:y1 y6:y4 y7:y4 y9:y4 y10:y8 y11:y4 y12:y1 y13:y1"},
		{"fn f(x: {}): {} { while x { let x = x; x = x; } x; }", "name x3", "x2:x1 x4:x1 x6:x3 x5:x3 x7:x1"},
		{"fn f(): {} { if 1 { let y = 1; } if 1 { let y = 1; y; } let y = 1; }", "", "y3:y2"},
		{"fn f(): {} { if x { z; } else { w; } while v { u; } }", "none x1, none z1, none w1, none v1, none u1", ""},
		{"fn f(): {} { let p = 1; let q = p; let r = q; p = q + r; if p { let s = r; let r = s; q = r; } q = r; }", "name r4",
			"p2:p1 q2:q1 q3:q1 r2:r1 p3:p1 p4:p1 r3:r1 s2:s1 r5:r4 q4:q1 r6:r1 q5:q1"},
	})
}

func TestCalls(t *testing.T) {
	tells(t, []row{
		{"fn f(x: {}, y: {}): {} { f(); f(x); f(x, y); f(x, y, x); }", "many f2, many f3, many f5", "f2:f1 f3:f1 x2:x1 f4:f1 x3:x1 y2:y1 f5:f1 x4:x1 y3:y1 x5:x1"},
		{"fn f(): {} { f(); f(1); g(); }\nfn g(): {} { f(g()); }", "many f3 / many f4", "f2:f1 f3:f1 g1:g2 f4:f1 g3:g2"},
		// What is wrong with a call stands ahead of what is wrong within it.
		{"fn f(): {} { return h(x, f(y), z) + f(w) * v; }", "none h1, none x1, many f2, none y1, none z1, many f3, none w1, none v1", "f2:f1 f3:f1"},
		{"fn f(x: {}): {} { return x - (f(f(x)) < x) = x; }", "", "x2:x1 f2:f1 f3:f1 x3:x1 x4:x1 x5:x1"},
		{"fn f(x: {}): {} { return x(x); }", "none x2", "x3:x1"},
		{"chan f: {};\nfn g(): {} { f(); }", " / none f2", ""},
		{"fn f(a: {}, b: {}, c: {}, d: {}, e: {}): {} { f(1, 2, 3, 4, 5); f(1, 2, 3, 4); f(1, 2, 3, 4, 5, 6); }", "many f3", "f2:f1 f3:f1 f4:f1"},
		// An argument that is missing counts, as it is one that is none.
		{"fn f(x: {}): {} { f(+); f(1, ); f(1, , ); }", "many f4", "f2:f1 f3:f1 f4:f1"},
	})
}

// In the order of the chapter: the item, parameters, sends, statements; of these the expression ahead of the name.
func TestOrder(t *testing.T) {
	tells(t, []row{{
		"chan q: {};\nfn f(): {} { }\nfn f(x: {}, x: {}): {} sends n, q, n { let x = v; m = u; send k w; if s { f(t); let x = i; } else { r; } while o { f(1, j); } return f + l; }\nfn z(): {} { z(1); x; }",
		" /  / name f2, name x2, none n1, none n2, name n2, none v1, name x3, none u1, none m1, none w1, none k1, none s1, many f3, none t1, none i1, name x4, none r1, none o1, many f4, none j1, none f5, none l1 / many z2, none x5",
		"q2:q1 f3:f1 f4:f1 z2:z1",
	}})
}

func TestDiagsOfNone(t *testing.T) {
	f := read(t, "fn f(x: {}, x: {}): {} sends y { z; }")
	for _, i := range []int{-1, 1, 2, math.MinInt, math.MaxInt} {
		if got := Diags(f, i); len(got) != 0 {
			t.Errorf("of item %d of one is wrong %v", i, got)
		}
		if got := Diags(api.File{}, i); len(got) != 0 {
			t.Errorf("of item %d of none is wrong %v", i, got)
		}
	}
	if got := Diags(api.File{}, 0); len(got) != 0 {
		t.Errorf("of nothing is wrong %v", got)
	}
}

// Diags are placed in their item, and uses in the file.
func TestPlaces(t *testing.T) {
	// The channel begins at byte 7, and the function at byte 21.
	f := read(t, "# head\nchan out: {};\nfn long(par: {}): {} sends out { send out par; none(par); }")
	if got, want := fmt.Sprint(Diags(f, 1)), "[{47 51 6 none}]"; got != want {
		t.Errorf("%s is wrong, not %s", got, want)
	}
	if got, want := fmt.Sprint(Uses(f)), "[{48 51 12} {63 66 29} {59 62 12} {73 76 29}]"; got != want {
		t.Errorf("used is %s, not %s", got, want)
	}
}

func TestAt(t *testing.T) {
	const s = "chan out: {};\nfn f(par: {}): {} sends out { send out par+f(par); send q 1; }"
	f := read(t, s)
	for at := -3; at <= len(s)+3; at++ {
		got, ok := At(f, at)
		var want api.Use
		for _, u := range []api.Use{{From: 38, To: 41, Def: 5}, {From: 53, To: 56, Def: 19}, {From: 49, To: 52, Def: 5}, {From: 57, To: 58, Def: 17}, {From: 59, To: 62, Def: 19}} {
			if at >= u.From && at < u.To {
				want = u
			}
		}
		if got != want || ok != (want != api.Use{}) {
			t.Errorf("at %d stands %v, %v, not %v", at, got, ok, want)
		}
	}
	for _, at := range []int{math.MinInt, math.MaxInt, len(s) * 2} {
		for _, g := range []api.File{f, {}, read(t, "x")} {
			if got, ok := At(g, at); ok || got != (api.Use{}) {
				t.Errorf("at %d stands %v, %v", at, got, ok)
			}
		}
	}
}
