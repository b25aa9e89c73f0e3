package rename

import (
	"fmt"
	"math"
	"strings"
	"testing"

	"undertone/api"
	"undertone/lex"
	"undertone/names"
	"undertone/parse"
)

// read has the file of s, which must be small enough to be one.
func read(t *testing.T, s string) api.File {
	t.Helper()
	f, err := parse.File(s)
	if err != api.OK {
		t.Fatalf("File(%q) tells %d", s, err)
	}
	return f
}

// spots has the tokens of s by their texts and how many of these there are up to them: `y2` is the second y.
func spots(s string) []string {
	seen := map[string]int{}
	var out []string
	for _, tok := range lex.Tokens(s) {
		seen[tok.Text]++
		out = append(out, fmt.Sprint(tok.Text, seen[tok.Text]))
	}
	return out
}

// place has where the token begins that spots tells so.
func place(t *testing.T, s, spot string) int {
	t.Helper()
	for i, tok := range lex.Tokens(s) {
		if spots(s)[i] == spot {
			return tok.At
		}
	}
	t.Fatalf("in %q is no %s", s, spot)
	return 0
}

// defs has all tokens at which a name stands, and where that is made; it must stand at each of their bytes, and at no other one.
func defs(t *testing.T, s string, f api.File) string {
	t.Helper()
	all, by := spots(s), map[int]string{}
	toks := lex.Tokens(s)
	for i, tok := range toks {
		by[tok.At] = all[i]
	}
	var l []string
	next := -3
	nothing := func(to int) {
		for ; next < to; next++ {
			if def, ok := Def(f, next); def != 0 || ok {
				t.Errorf("at byte %d of %q stands what is made at %d, %v", next, s, def, ok)
			}
		}
	}
	for i, tok := range toks {
		nothing(tok.At)
		def, ok := Def(f, tok.At)
		for ; next < tok.At+len(tok.Text); next++ {
			if d, o := Def(f, next); d != def || o != ok {
				t.Errorf("in %s of %q is made at %d, %v what begins at byte %d with %d, %v", all[i], s, d, o, tok.At, def, ok)
			}
		}
		if ok {
			l = append(l, all[i]+":"+by[def])
		} else if def != 0 {
			t.Errorf("beside no name of %q Def tells %d", s, def)
		}
	}
	nothing(len(s) + 3)
	return strings.Join(l, " ")
}

type row struct{ s, want string }

func tells(t *testing.T, rows []row) {
	t.Helper()
	for _, c := range rows {
		if got := defs(t, c.s, read(t, c.s)); got != c.want {
			t.Errorf("of %q is made\n%s, not\n%s", c.s, got, c.want)
		}
	}
}

func TestDef(t *testing.T) {
	tells(t, []row{
		{"", ""},
		{" # x\n", ""},
		{"chan c: {};", "c1:c1"},
		{"chan long: {a, b};", "long1:long1"},
		{"fn f(): {} { }", "f1:f1"},
		{"fn f(x: {}, why: {a}): {} { }", "f1:f1 x1:x1 why1:why1"},
		{"fn f(x: {}): {} { let y = x; y = f(y, z); }", "f1:f1 x1:x1 y1:y1 x2:x1 y2:y1 f2:f1 y3:y1"},
		{"chan c: {};\nfn f(): {} sends c { send c 1; }", "c1:c1 f1:f1 c2:c1 c3:c1"},
		{"fn f(): {} { g(); }\nfn g(): {} { f(g()); }", "f1:f1 g1:g2 g2:g2 f2:f1 g3:g2"},
		// What is made may stand ahead of what is asked, behind it, or in another item.
		{"fn f(): {} sends c { send c f(); }\n# c\nchan c: {};", "f1:f1 c1:c3 c2:c3 f2:f1 c3:c3"},
		{"fn f(x: {}): {} { if x { let y = 1; return y; } else { let y: {a} = 2; y = y; } while y { let z = x; z = z; } }", "f1:f1 x1:x1 x2:x1 y1:y1 y2:y1 y3:y3 y4:y3 y5:y3 z1:z1 x3:x1 z2:z1 z3:z1"},
		// A let is made behind its own expression.
		{"fn f(x: {}): {} { let y = y; let z = z + x; }", "f1:f1 x1:x1 y1:y1 z1:z1 x2:x1"},
	})
}

// Names of one spelling mean different things.
func TestDefOneSpelling(t *testing.T) {
	tells(t, []row{
		{"chan x: {};\nfn x(x: {}): {} sends x { send x x(x); }", "x1:x1 x2:x2 x3:x3 x4:x1 x5:x1 x6:x2 x7:x3"},
		{"fn f(x: {}): {} { return x; }\nfn g(x: {}): {} { return x; }", "f1:f1 x1:x1 x2:x1 g1:g1 x3:x3 x4:x3"},
		{"fn f(): {} { if 1 { let x = 1; x = 2; } let x = 3; x = x; }", "f1:f1 x1:x1 x2:x1 x3:x3 x4:x3 x5:x3"},
		{"fn a(a: {a}): {a} { let b: {b, a} = a; }", "a1:a1 a2:a2 b1:b1 a6:a2"},
	})
}

// What is made twice is made where it stands, though something is wrong with it; a use means what is there.
func TestDefTwice(t *testing.T) {
	tells(t, []row{
		{"chan c: {};\nchan c: {};\nfn f(): {} { send c 1; }\nfn f(): {} { f(); }", "c1:c1 c2:c2 f1:f1 c3:c1 f2:f2 f3:f1"},
		{"fn f(x: {}, x: {}): {} { x = 1; let x = x; x = 2; }", "f1:f1 x1:x1 x2:x2 x3:x2 x4:x4 x5:x2 x6:x4"},
		{"fn f(): {} { let y = 1; let y = y; if y { let y = y; y; } y; }", "f1:f1 y1:y1 y2:y2 y3:y1 y4:y2 y5:y5 y6:y2 y7:y5 y8:y2"},
	})
}

// Of what is wrong the names are told that are there.
func TestDefOfWrong(t *testing.T) {
	tells(t, []row{
		{"x", ""},
		{"x y f(x)\nchan c: {}; x", "c1:c1"},
		{"chan c", "c1:c1"},
		{"chan let: {};", ""},
		{"fn", ""},
		{"fn f", "f1:f1"},
		{"fn f(x: {}", "f1:f1 x1:x1"},
		{"fn f(x: {}, y", "f1:f1 x1:x1"},
		{"fn f(let: {}, abcdefghijklm: {}, y: {}): {} { y; }", "f1:f1 y1:y1 y2:y1"},
		{"fn f(): {} { let = 1; let if = 2; let x 3; x = q; }", "f1:f1 x1:x1 x2:x1"},
		{"fn f(): {} { send c 1; g(); y = z; }", "f1:f1"},
		{"fn f(x: {}): {} { while x { let y = ", "f1:f1 x1:x1 x2:x1 y1:y1"},
	})
}

// What makes locals must have a name of its own; what uses them need not.
func TestDefOfNameless(t *testing.T) {
	tells(t, []row{
		{"fn (x: {}): {} { let y = x; return y; }", "x2:x1 y2:y1"},
		{"fn if(x: {}): {} { let y = x; }\nfn g(x: {}): {} { let y = x; }", "x2:x1 g1:g1 x3:x3 y2:y2 x4:x3"},
		{"fn abcdefghijklm(): {} sends c { let y = 1; f(); }\nchan c: {};\nfn f(): {} { }", "c1:c2 f1:f2 c2:c2 f2:f2"},
	})
}

func TestDefFarOff(t *testing.T) {
	f := read(t, "chan c: {};\nfn f(x: {}): {} { let y = x; }")
	for _, at := range []int{math.MinInt, math.MinInt + 1, -1000, -1, 43, 4000, math.MaxInt - 1, math.MaxInt} {
		if def, ok := Def(f, at); def != 0 || ok {
			t.Errorf("at byte %d stands what is made at %d, %v", at, def, ok)
		}
		if def, ok := Def(api.File{}, at); def != 0 || ok {
			t.Errorf("at byte %d of nothing stands what is made at %d, %v", at, def, ok)
		}
	}
}

// becomes is a row of what is asked of To: what spot there is, how it is to be called, and what comes of it.
type becomes struct {
	s, spot, name, want string
	err                 api.Errno
}

// calls asks at each byte of the spot.
func calls(t *testing.T, rows []becomes) {
	t.Helper()
	for _, c := range rows {
		at := place(t, c.s, c.spot)
		for k := range len(c.spot) - 1 {
			if got, err := To(c.s, at+k, c.name); got != c.want || err != c.err {
				t.Errorf("%s of %q, called %q, comes to\n%q, %d, not\n%q, %d", c.spot, c.s, c.name, got, err, c.want, c.err)
			}
		}
	}
}

func TestTo(t *testing.T) {
	const s = "chan out: {};\nfn f(x: {}, y: {}): {} sends out { let z = x + y * x; # x\n send out z;z=f(x,z); return f(y, 1); }\n"
	calls(t, []becomes{
		{"chan c: {};", "c1", "d", "chan d: {};", api.OK},
		{"fn f(): {} { }", "f1", "longer_name", "fn longer_name(): {} { }", api.OK},
		{s, "out1", "o", "chan o: {};\nfn f(x: {}, y: {}): {} sends o { let z = x + y * x; # x\n send o z;z=f(x,z); return f(y, 1); }\n", api.OK},
		{s, "out2", "abcdefghijkl", "chan abcdefghijkl: {};\nfn f(x: {}, y: {}): {} sends abcdefghijkl { let z = x + y * x; # x\n send abcdefghijkl z;z=f(x,z); return f(y, 1); }\n", api.OK},
		{s, "out3", "_", "chan _: {};\nfn f(x: {}, y: {}): {} sends _ { let z = x + y * x; # x\n send _ z;z=f(x,z); return f(y, 1); }\n", api.OK},
		{s, "f1", "fun", "chan out: {};\nfn fun(x: {}, y: {}): {} sends out { let z = x + y * x; # x\n send out z;z=fun(x,z); return fun(y, 1); }\n", api.OK},
		{s, "f3", "fun", "chan out: {};\nfn fun(x: {}, y: {}): {} sends out { let z = x + y * x; # x\n send out z;z=fun(x,z); return fun(y, 1); }\n", api.OK},
		{s, "x1", "zed", "chan out: {};\nfn f(zed: {}, y: {}): {} sends out { let z = zed + y * zed; # x\n send out z;z=f(zed,z); return f(y, 1); }\n", api.OK},
		{s, "x3", "zed", "chan out: {};\nfn f(zed: {}, y: {}): {} sends out { let z = zed + y * zed; # x\n send out z;z=f(zed,z); return f(y, 1); }\n", api.OK},
		{s, "y2", "q", "chan out: {};\nfn f(x: {}, q: {}): {} sends out { let z = x + q * x; # x\n send out z;z=f(x,z); return f(q, 1); }\n", api.OK},
		{s, "z1", "w2", "chan out: {};\nfn f(x: {}, y: {}): {} sends out { let w2 = x + y * x; # x\n send out w2;w2=f(x,w2); return f(y, 1); }\n", api.OK},
		{s, "z3", "w2", "chan out: {};\nfn f(x: {}, y: {}): {} sends out { let w2 = x + y * x; # x\n send out w2;w2=f(x,w2); return f(y, 1); }\n", api.OK},
		// What is called as it was is as it was.
		{s, "out1", "out", s, api.OK},
		{s, "x2", "x", s, api.OK},
		{s, "f2", "f", s, api.OK},
		// A name may be that of another kind of thing.
		{s, "x1", "f", "chan out: {};\nfn f(f: {}, y: {}): {} sends out { let z = f + y * f; # x\n send out z;z=f(f,z); return f(y, 1); }\n", api.OK},
		{s, "f1", "out", "chan out: {};\nfn out(x: {}, y: {}): {} sends out { let z = x + y * x; # x\n send out z;z=out(x,z); return out(y, 1); }\n", api.OK},
		{s, "out1", "x", "chan x: {};\nfn f(x: {}, y: {}): {} sends x { let z = x + y * x; # x\n send x z;z=f(x,z); return f(y, 1); }\n", api.OK},
	})
}

// Of one spelling only what means the same is called otherwise; tags and remarks aren't names.
func TestToOneSpelling(t *testing.T) {
	const s = "chan x: {};\nfn x(x: {}): {} sends x { send x x(x); }"
	const tags = "fn a(a: {a}): {a} { let b: {a} = a; return b; } # a"
	const blocks = "fn f(): {} { if 1 { let x = 1; x = 2; } else { let x = 4; } let x = 3; x = x; }\nfn x(x: {}): {} { x; }"
	calls(t, []becomes{
		{s, "x1", "y", "chan y: {};\nfn x(x: {}): {} sends y { send y x(x); }", api.OK},
		{s, "x5", "y", "chan y: {};\nfn x(x: {}): {} sends y { send y x(x); }", api.OK},
		{s, "x6", "yy", "chan x: {};\nfn yy(x: {}): {} sends x { send x yy(x); }", api.OK},
		{s, "x7", "yyy", "chan x: {};\nfn x(yyy: {}): {} sends x { send x x(yyy); }", api.OK},
		{tags, "a2", "h", "fn a(h: {a}): {a} { let b: {a} = h; return b; } # a", api.OK},
		{tags, "a1", "h", "fn h(a: {a}): {a} { let b: {a} = a; return b; } # a", api.OK},
		{tags, "a3", "h", "", api.ErrNone},
		{tags, "a5", "h", "", api.ErrNone},
		{tags, "b1", "c", "fn a(a: {a}): {a} { let c: {a} = a; return c; } # a", api.OK},
		{blocks, "x1", "y", "fn f(): {} { if 1 { let y = 1; y = 2; } else { let x = 4; } let x = 3; x = x; }\nfn x(x: {}): {} { x; }", api.OK},
		{blocks, "x3", "y", "fn f(): {} { if 1 { let x = 1; x = 2; } else { let y = 4; } let x = 3; x = x; }\nfn x(x: {}): {} { x; }", api.OK},
		{blocks, "x6", "yes", "fn f(): {} { if 1 { let x = 1; x = 2; } else { let x = 4; } let yes = 3; yes = yes; }\nfn x(x: {}): {} { x; }", api.OK},
		{blocks, "x9", "y", "fn f(): {} { if 1 { let x = 1; x = 2; } else { let x = 4; } let x = 3; x = x; }\nfn x(y: {}): {} { y; }", api.OK},
	})
}

// Names are taken by what is made ahead, and behind.
func TestToTaken(t *testing.T) {
	const s = "chan c: {};\nchan d: {};\nfn f(x: {}, y: {}): {} { let z = x; if z { let w = y; w = z; } let v = 1; }\nfn g(): {} { let u = 1; }"
	calls(t, []becomes{
		{s, "c1", "d", "", api.ErrName},
		{s, "d1", "c", "", api.ErrName},
		{s, "f1", "g", "", api.ErrName},
		{s, "g1", "f", "", api.ErrName},
		{s, "x1", "y", "", api.ErrName},
		{s, "y2", "x", "", api.ErrName},
		{s, "x2", "z", "", api.ErrName},
		{s, "z2", "x", "", api.ErrName},
		{s, "x1", "w", "", api.ErrName},
		{s, "w1", "x", "", api.ErrName},
		{s, "w2", "z", "", api.ErrName},
		{s, "z1", "w", "", api.ErrName},
		{s, "y1", "v", "", api.ErrName},
		{s, "v1", "z", "", api.ErrName},
		// What is out of reach takes none.
		{s, "v1", "w", "chan c: {};\nchan d: {};\nfn f(x: {}, y: {}): {} { let z = x; if z { let w = y; w = z; } let w = 1; }\nfn g(): {} { let u = 1; }", api.OK},
		{s, "w2", "v", "chan c: {};\nchan d: {};\nfn f(x: {}, y: {}): {} { let z = x; if z { let v = y; v = z; } let v = 1; }\nfn g(): {} { let u = 1; }", api.OK},
		{s, "u1", "x", "chan c: {};\nchan d: {};\nfn f(x: {}, y: {}): {} { let z = x; if z { let w = y; w = z; } let v = 1; }\nfn g(): {} { let x = 1; }", api.OK},
		{s, "z3", "u", "chan c: {};\nchan d: {};\nfn f(x: {}, y: {}): {} { let u = x; if u { let w = y; w = u; } let v = 1; }\nfn g(): {} { let u = 1; }", api.OK},
	})
}

func TestToNoName(t *testing.T) {
	const s = "fn f(x: {}): {} { return x; }"
	for _, name := range append(lex.Own(), "", " ", "1", "1x", "x y", "x ", " x", "x\n", "\tx", "x#", "x-", "ä", "x\x00", "abcdefghijklm", strings.Repeat("x", 5000), "(", "{}", "?") {
		if got, err := To(s, place(t, s, "x2"), name); got != "" || err != api.ErrName {
			t.Errorf("called %q it comes to %q, %d", name, got, err)
		}
	}
	for _, name := range []string{"y", "_", "__", "X", "y1", "lets", "Fn", "fnn", "abcdefghijkl", "a", "h"} {
		want := strings.ReplaceAll(s, "x", name)
		if got, err := To(s, place(t, s, "x2"), name); got != want || err != api.OK {
			t.Errorf("called %q it comes to %q, %d, not %q", name, got, err, want)
		}
	}
}

// Where no name stands there is nothing to call otherwise.
func TestToNowhere(t *testing.T) {
	const s = " # f\nfn f(x: {a}): {a} { let y: {a} = 12 + f(x); # y\n return y; }\nchan c: {};\n"
	f := read(t, s)
	none := 0
	for at := -3; at < len(s)+3; at++ {
		_, ok := Def(f, at)
		got, err := To(s, at, "q")
		if ok != (err == api.OK) || !ok && (got != "" || err != api.ErrNone) {
			t.Errorf("at byte %d of %q comes %q, %d", at, s, got, err)
		}
		if !ok {
			none++
		}
	}
	if want := len(s) + 6 - 7; none != want {
		t.Errorf("in %q are %d bytes without a name, not %d", s, none, want)
	}
	for _, at := range []int{math.MinInt, -1, len(s), 4000, math.MaxInt} {
		if got, err := To(s, at, "q"); got != "" || err != api.ErrNone {
			t.Errorf("at byte %d comes %q, %d", at, got, err)
		}
		if got, err := To("", at, "q"); got != "" || err != api.ErrNone {
			t.Errorf("at byte %d of nothing comes %q, %d", at, got, err)
		}
	}
}

// Whatever is wrong with a text, wherever: nothing of it is called otherwise.
func TestToOfWrong(t *testing.T) {
	for _, s := range []string{
		"x",
		"fn f(x: {}): {} { return x + ; }",
		"fn f(x: {}): {} { return x; }\nchan",
		"fn f(x: {}): {} { return y; }",
		"fn f(x: {}, x: {}): {} { }",
		"fn f(x: {}): {} { f(); }",
		"fn f(x: {}): {} { }\nchan c: {};\nfn g(): {} { send c 1; }",
		"fn f(x: {a}): {} { return x; }",
		"fn f(x: {a}): {} { }\nchan c: {};\nfn g(x: {a}): {} sends c { if x { send c 1; } }",
	} {
		for at := -1; at <= len(s); at++ {
			if got, err := To(s, at, "q"); got != "" || err != api.ErrBad {
				t.Errorf("at byte %d of %q comes %q, %d", at, s, got, err)
			}
		}
	}
}

// Where several errors fit the first one is told.
func TestToFirstError(t *testing.T) {
	long := "fn f(x: {}): {} { return x; }" + strings.Repeat(" ", 3971)
	for _, c := range []struct {
		s    string
		at   int
		name string
		want api.Errno
	}{
		{long + " ", 3, "q", api.ErrMuch},
		{"?" + strings.Repeat(" ", 4000), -1, "", api.ErrMuch},
		{strings.Repeat("\nfn", 31), -1, "", api.ErrMany},
		{strings.Repeat("\nchan c: {};", 30), -1, "", api.ErrBad},
		{"?", -1, "", api.ErrBad},
		{"fn f(): {} { return y; }", 20, "1", api.ErrBad},
		{long, -1, "", api.ErrNone},
		{long, 0, "fn", api.ErrNone},
		{long, 4000, "abcdefghijkl", api.ErrNone},
		{long, 3, "", api.ErrName},
		{long, 3, "abcdefghijklm", api.ErrName},
		{long, 3, "gg", api.ErrMuch},
		{long, 5, "ff", api.ErrMuch},
		{"fn f(x: {}, yy: {}): {} { }" + strings.Repeat(" ", 3973), 5, "yy", api.ErrMuch},
		{"fn f(x: {}, yy: {}): {} { }" + strings.Repeat(" ", 3972), 5, "yy", api.ErrName},
	} {
		if got, err := To(c.s, c.at, c.name); got != "" || err != c.want {
			t.Errorf("at byte %d of %.40q, %d long, called %q, comes %.40q, %d, not %d", c.at, c.s, len(c.s), c.name, got, err, c.want)
		}
	}
}

// A text may grow as far as texts go, and become smaller.
func TestToSize(t *testing.T) {
	s := "fn f(aa: {}): {} { " + strings.Repeat("aa + ", 100) + "aa; }"
	s += strings.Repeat(" ", 4000-len(s)-102)
	for name, want := range map[string]int{"b": 4000 - 204, "bb": 4000 - 102, "bbb": 4000, "bbbb": -1} {
		got, err := To(s, 5, name)
		if want < 0 {
			if got != "" || err != api.ErrMuch {
				t.Errorf("called %s it has %d bytes, %d", name, len(got), err)
			}
			continue
		}
		if got != strings.ReplaceAll(s, "aa", name) || len(got) != want || err != api.OK {
			t.Errorf("called %s it has %d bytes, %d, not %d", name, len(got), err, want)
		}
	}
	many := ""
	for i := range api.MaxItems {
		many += fmt.Sprintf("chan c%d: {};\n", i)
	}
	if got, err := To(many, place(t, many, "c291"), "fnn"); got != strings.Replace(many, "c29:", "fnn:", 1) || err != api.OK {
		t.Errorf("the last one of many comes to %q, %d", got, err)
	}
}

// Of texts with which nothing is wrong before and behind no name is known that would mean something else; so what is told of other uses is asked of fits itself.
func TestFits(t *testing.T) {
	stays := func(at int) int { return at }
	const was = "fn f(x: {}, y: {}): {} { if x { return x; } let z = y; }"
	for _, c := range []struct {
		s    string
		want api.Errno
	}{
		{was, api.OK},
		{"fn g(w: {}, v: {}): {} { if w { return w; } let u = v; }", api.OK},
		{"fn f(x: {}, y: {}): {} { if y { return x; } let z = y; }", api.ErrName},
		{"fn f(x: {}, y: {}): {} { if x { return x; } let z = x; }", api.ErrName},
		{"fn f(x: {}, y: {}): {} { if x { return x; } let z = 1; }", api.ErrName},
		{"fn f(x: {}, y: {}): {} { if x { return x; } let z =  y; }", api.ErrName},
		{"fn f(x: {}, y: {}): {} { if x { return x; } let z = y; z; }", api.ErrName},
		{"fn f(x: {}, y: {}): {} { if x { return x; } let y = y; }", api.ErrName},
		{"fn f(x: {}, y: {}): {} { if x { return x; } let z = q; }", api.ErrName},
		{"fn f(x: {}, y: {}): {} { if x { return x; } let z = y; ", api.ErrName},
		{was + strings.Repeat(" ", 4000), api.ErrMuch},
	} {
		if err := fits(c.s, names.Uses(read(t, was)), stays); err != c.want {
			t.Errorf("that %.80q fits is told %d, not %d", c.s, err, c.want)
		}
	}
}
