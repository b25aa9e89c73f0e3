package flow

import (
	"strings"
	"testing"

	"undertone/api"
	"undertone/label"
	"undertone/parse"
)

// read has the file of s, which must be small enough to be one.
func read(t *testing.T, s string) api.File {
	t.Helper()
	f, err := parse.File(s)
	if err != api.OK {
		t.Fatalf("File(%q) tells %d", s, err)
	}
	return f
}

func floors(f api.File) string {
	var l []string
	for _, n := range Floors(f) {
		l = append(l, label.Print(n))
	}
	return strings.Join(l, " ")
}

// told has all items' diags, item by item, with `/` between: the text of each, and its name.
func told(t *testing.T, s string, f api.File) string {
	t.Helper()
	var items []string
	for i, it := range f.Items {
		var l []string
		for _, d := range Diags(f, i) {
			from, to := it.At+d.From, it.At+d.To
			if d.Err != api.ErrFlow || from < it.At || from > to || to > it.At+it.Size {
				t.Errorf("of %q a diag is %v", s, d)
				continue
			}
			l = append(l, s[from:to]+" > "+d.Name)
		}
		items = append(items, strings.Join(l, " | "))
	}
	return strings.Join(items, " / ")
}

type row struct{ s, diags string }

// tells holds rows against what must be told of their texts.
func tells(t *testing.T, rows []row) {
	t.Helper()
	for _, c := range rows {
		f := read(t, c.s)
		if got := told(t, c.s, f); got != c.diags {
			t.Errorf("of %q is wrong\n%s, not\n%s", c.s, got, c.diags)
		}
		if got, want := Sound(f), strings.Trim(c.diags, " /") == ""; got != want {
			t.Errorf("whether %q is sound is %v", c.s, got)
		}
	}
}

func TestFloors(t *testing.T) {
	const all = "{a,b,c,d,e,f,g,h}"
	const chans = "chan a: {a};\nchan b: {b};\nchan ab: {a,b};\nchan abc: {a,b,c};\nchan n: {};\n"
	const five = all + " " + all + " " + all + " " + all + " " + all + " "
	for _, c := range []struct{ s, want string }{
		{"", ""},
		{"fn f(): {} { }", all},
		{"x\nfn f(): {a} { }\nchan c: {a};", all + " " + all + " " + all},
		{chans + "fn f(): {} sends a { }", five + "{a}"},
		{chans + "fn f(): {} sends abc { }\nfn g(): {} sends abc, ab { }\nfn h(): {} sends ab, b, abc { }", five + "{a,b,c} {a,b} {b}"},
		{chans + "fn f(): {} sends a, b { }\nfn g(): {} sends n { }\nfn h(): {} sends abc, n { }", five + "{} {} {}"},
		// What there is not, or is no channel, is none of them.
		{chans + "fn f(): {} sends f, zz { }\nfn g(): {} sends f, ab, zz { }", five + all + " {a,b}"},
		// A channel counts wherever it stands, and once.
		{"fn f(): {} sends c, d, c { }\nchan c: {a,b};\nchan d: {b,c};", "{b} " + all + " " + all},
		// What is said counts, and what is sent doesn't, nor what is called.
		{chans + "fn f(): {} sends ab { send n 1; g(); }\nfn g(): {} sends a { }", five + "{a,b} {a}"},
		// Of two channels of one name the first is meant.
		{"chan c: {a};\nchan c: {b};\nfn f(): {} sends c { }", all + " " + all + " {a}"},
		// Of what is broken what could be read counts.
		{chans + "fn f(): {} sends , ab { }\nfn g(): {} sends ab\nfn (: sends a { }", five + "{a,b} {a,b} {a}"},
		{"chan c {a};\nchan : {b};\nfn f(): {} sends c, { }", all + " " + all + " {a}"},
	} {
		if got := floors(read(t, c.s)); got != c.want {
			t.Errorf("of %q floors are\n%s, not\n%s", c.s, got, c.want)
		}
	}
}

const pair = "(x: {a}, y: {b}, z: {}): "

func TestStatements(t *testing.T) {
	tells(t, []row{
		{"", ""},
		{"chan c: {};", ""},
		{"fn f(): {} { }", ""},
		{"fn f" + pair + "{} { let p: {} = x; let q: {a} = x; let r: {a,b} = x; let s: {b} = x; let u: {} = z; let v: {b} = 1; }", "let p: {} = x; > p | let s: {b} = x; > s"},
		{"fn f" + pair + "{} { x = 1; x = x; x = y; x = z; y = x; z = x; z = z; z = 7; }", "x = y; > x | y = x; > y | z = x; > z"},
		{"chan a: {a};\nchan n: {};\nchan t: {a,b,c};\nfn f" + pair + "{} sends a, n, t { send a x; send a y; send a z; send n x; send n z; send n 1; send t x + y; send a x + y; }",
			" /  /  / send a y; > a | send n x; > n | send a x + y; > a"},
		{"fn f" + pair + "{a} { return x; return y; return z; return 1; return x + y; }", "return y; >  | return x + y; > "},
		{"fn f" + pair + "{} { return x; }\nfn g" + pair + "{a,b} { return x + y; }\nfn h" + pair + "{c} { return x; return 0; }", "return x; >  /  / return x; > "},
		// To say something to nobody tells nothing.
		{"fn f" + pair + "{} { x; y + x; x * y = z; }", ""},
		// Each tag by itself.
		{"fn f(p: {a,b,c,d,e,f,g}, q: {a,b,c,d,e,f,g,h}): {} { q = p; p = q; q = q; }", "p = q; > p"},
		{"chan h: {h};\nfn f(p: {h}, q: {g}): {} sends h { send h p; send h q; }", " / send h q; > h"},
	})
}

func TestExpressions(t *testing.T) {
	tells(t, []row{
		{"fn f" + pair + "{a} { return 1 + 2 * 3; return 1 + x; return x + 1; return 1 < (2 - x); return y = 1; return 1 = y; return (z - (z * (z < y))); }",
			"return y = 1; >  | return 1 = y; >  | return (z - (z * (z < y))); > "},
		{"fn f" + pair + "{a,b} { return x + y; return x * (z - y); return 1; }", ""},
		{"fn f" + pair + "{b} { return x * 0; return x - x; return 1 + x + 1 + 1; return 0 * (0 + (0 * x)); }",
			"return x * 0; >  | return x - x; >  | return 1 + x + 1 + 1; >  | return 0 * (0 + (0 * x)); > "},
		// What comes of a call has the function's label, and nothing of its arguments.
		{"fn f(x: {a}): {} { return f(x); return g(x); return f(x) + x; }\nfn g(x: {a}): {b} { return 0; }", "return g(x); >  | return f(x) + x; >  / "},
	})
}

func TestOpenLets(t *testing.T) {
	tells(t, []row{
		{"fn f" + pair + "{} { let p = x; return p; let q = z; return q; let r = 1; return r; }", "return p; > "},
		// An open one has just what it is made of, and what is set later must flow to that.
		{"fn f" + pair + "{} { let p = 1; p = z; p = x; p = p; let q = x; q = x; q = 1; q = y; z = q; }", "p = x; > p | q = y; > q | z = q; > z"},
		{"fn f" + pair + "{} { let p = x; let q = p; let r = q + y; x = q; x = r; y = r; }", "x = r; > x | y = r; > y"},
		// And what it is under.
		{"fn f" + pair + "{} { if x { let p = 1; p = 2; x = p; y = p; let q = y; y = q; let r: {} = 1; let s: {a} = 1; } }",
			"y = p; > y | y = q; > y | let r: {} = 1; > r"},
		{"fn f" + pair + "{} { while x { let p = 1; p = 2; z = p; } if 1 { let p = 1; z = p; } }", "z = p; > z"},
		// Of one with a label it is the label that counts, even if less would do.
		{"fn f" + pair + "{} { let p: {a,c} = 1; z = p; x = p; let q: {} = x; z = q; }", "z = p; > z | x = p; > x | let q: {} = x; > q"},
	})
}

// The last one that was made is meant, for the rest of its block.
func TestScopes(t *testing.T) {
	tells(t, []row{
		{"fn f" + pair + "{} { let x = z; return x; let z = y; return z; }", "return z; > "},
		{"fn f" + pair + "{} { if 1 { let x = 1; return x; } return x; }", "return x; > "},
		{"fn f" + pair + "{} { if 1 { let p = x; return p; } else { return p; } return p; p = x; }", "return p; >  | p = x; > p"},
		{"fn f" + pair + "{} { while 1 { let x = 1; x = 2; if 1 { let x = y; return x; } return x; } return x; }", "return x; >  | return x; > "},
		// What a let is made of is asked ahead of it.
		{"fn f" + pair + "{} { let x = x; return x; let x = 1; return x; let z: {b} = z; return z; }", "return x; >  | return z; > "},
		{"fn f(x: {}, x: {a}): {} { return x; }\nfn g(x: {a}, x: {}): {} { return x; }", "return x; >  / "},
		// Parameters of one are none of another.
		{"fn f(p: {a}): {} { return q; }\nfn g(q: {b}): {} { return p; }", " / "},
		// Functions and channels are no locals.
		{"chan c: {a};\nfn f(): {a} { return 1; }\nfn g(): {} { return c; return f; c = 1; let f = c; return f; f(); return f(); }", " /  / return f(); > "},
	})
}

func TestUnder(t *testing.T) {
	tells(t, []row{
		{"chan n: {};\nfn f" + pair + "{} sends n { if x { x = 1; z = 1; send n 1; return 1; } else { x = 2; z = 2; send n 2; return 2; } z = 3; send n 3; return 3; }",
			" / z = 1; > z | send n 1; > n | return 1; >  | z = 2; > z | send n 2; > n | return 2; > "},
		{"chan n: {};\nfn f" + pair + "{} sends n { while x { x = 1; z = 1; send n 1; return 1; } z = 3; send n 3; return 3; }",
			" / z = 1; > z | send n 1; > n | return 1; > "},
		// All that is around it, in any depth.
		{"fn f" + pair + "{} { if x { if z { if y { x = 1; y = 1; let p: {a,b} = 1; let q: {b} = 1; } y = 2; x = 2; } } }", "x = 1; > x | y = 1; > y | let q: {b} = 1; > q | y = 2; > y"},
		{"fn f" + pair + "{} { while x { while y { let p: {a} = 1; } if z { let q: {a} = 1; } else { let r: {} = 1; } } }", "let p: {a} = 1; > p | let r: {} = 1; > r"},
		{"fn f" + pair + "{} { if x + y { let p: {a} = 1; } if x { } if 1 { z = 1; } while 0 { z = 1; } }", "let p: {a} = 1; > p"},
		// What a call tells its caller counts.
		{"fn f" + pair + "{} { if f(x, y, z) { z = 1; } if g() { z = 2; } while g() { z = 3; } }\nfn g(): {c} { }", "z = 2; > z | z = 3; > z / "},
		// That something is tried tells nothing by itself, nor does an empty block.
		{"fn f" + pair + "{} { if x { 1 + 1; } if x { } else { } while y { } }", ""},
	})
}

const fns = "chan a: {a};\nchan n: {};\nfn pure(p: {}): {} { }\nfn loud(p: {a}): {} sends n { }\nfn low(p: {a}, q: {b}): {c} sends a { }\n"

func TestCalls(t *testing.T) {
	tells(t, []row{
		{fns + "fn f" + pair + "{} { pure(1); pure(z); pure(x); loud(x); loud(y); loud(x + z); loud(x + y); low(x, y); low(y, x); low(x, x); }",
			" /  /  /  /  / x > p | y > p | x + y > p | y > p | x > q | x > q"},
		{fns + "fn f" + pair + "{} { if x { loud(1); pure(1); low(1, 1); low(1, y); } }",
			" /  /  /  /  / loud(1) > loud | 1 > p | 1 > q | y > q"},
		{fns + "fn f" + pair + "{} { if y { low(1, 1); } while x { loud(x); low(x, 1 * 2); } }",
			" /  /  /  /  / 1 > p | low(1, 1) > low | loud(x) > loud | 1 * 2 > q"},
		// Where nothing is told to anybody it may be called anywhere.
		{"fn g(): {} { }\nfn f" + pair + "{} { if x + y { g(); x = x * g(); } }", " / x = x * g(); > x"},
		// What a function says it sends to counts, wherever it is.
		{"fn f" + pair + "{} { if x { g(); h(); k(); } }\nfn g(): {} sends c { }\nfn h(): {} { send c 1; }\nfn k(): {} sends c, d { }\nchan c: {a,b};\nchan d: {b};", "k() > k /  /  /  /  / "},
		// Itself too.
		{"chan n: {};\nfn f(x: {a}): {} sends n { f(x); if x { f(1); } }", " / f(1) > f"},
		// Parts ahead of it: arguments from the left, each with what is in it, then the call, then the statement.
		{fns + "fn f" + pair + "{} { if x { z = loud(pure(loud(y)) + y) + pure(1); } }",
			" /  /  /  /  / y > p | loud(y) > loud | loud(y) > p | pure(loud(y)) + y > p | loud(pure(loud(y)) + y) > loud | 1 > p | z = loud(pure(loud(y)) + y) + pure(1); > z"},
		{fns + "fn f" + pair + "{} { let s = pure(x); s = pure(x); send n pure(x); return pure(x); pure(x); if pure(x) { pure(y); } else { pure(x); } while pure(x) { pure(y); } }",
			" /  /  /  /  / x > p | x > p | x > p | x > p | x > p | x > p | y > p | x > p | x > p | y > p"},
	})
}

// The expression of a while is asked again just where it was not 0: that tells what it was.
func TestWhiles(t *testing.T) {
	tells(t, []row{
		{fns + "fn f" + pair + "{} sends n { while loud(1) { } while x { } while loud(1) + x { } if loud(1) + x { } }", " /  /  /  /  / loud(1) > loud"},
		{fns + "fn f" + pair + "{} { while pure(1) < x { } while pure(z) { } while x * pure(z) { } if x * pure(z) { } }", " /  /  /  /  / 1 > p | z > p"},
		{fns + "fn f" + pair + "{} { while low(1, 1) { } if low(1, 1) { } }", " /  /  /  /  / 1 > p | 1 > q | low(1, 1) > low"},
		// What is wrong with it anyway is told once.
		{fns + "fn f" + pair + "{} { while pure(x) { } if x { while pure(1) { } while pure(y) { z = 1; } } }", " /  /  /  /  / x > p | 1 > p | y > p | z = 1; > z"},
		{fns + "fn f" + pair + "{} { while x { while y { } while pure(y) + 1 { } } }", " /  /  /  /  / y > p"},
		// What of it has no label of its own is as it was around it.
		{fns + "fn f" + pair + "{} sends n { while loud(x) { z = 1; loud(1); } }", " /  /  /  /  / "},
	})
}

// What there is not takes everything, and has no secrets; a local that nobody made hears nothing.
func TestNone(t *testing.T) {
	tells(t, []row{
		{"fn f" + pair + "{} { none = x; none = 1; none = z; return none; if none { z = 1; } if x { none = 1; } }", "none = x; > none | none = 1; > none"},
		{"fn f" + pair + "{} { send none x; if x { send none 1; send f x; send x x; } }", ""},
		{"fn f" + pair + "{} { return none(x, y); if x { none(1); none(y); } z = none(x); return none() + x; }", "return none() + x; > "},
		// In its arguments what is called is asked all the same.
		{"chan n: {};\nfn g(p: {}): {} sends n { }\nfn f" + pair + "{} { none(g(x)); if x { none(y, none(g(1))); } }", " /  / x > p | 1 > p | g(1) > g"},
		// Arguments behind the last parameter are let be, but for what they call.
		{"fn g(p: {}): {} { }\nfn f" + pair + "{} { g(1, x); g(x, y, x); g(1, g(x)); f(1, 1, 1, x, y); g(); f(x); }", " / x > p | x > p"},
		{"chan n: {};\nfn g(): {} sends n { }\nfn f" + pair + "{} { g(x); g(x, g(y)); if x { g(1); } while g(x) { } }", " /  / g(1) > g"},
		// Channels are no functions, nor functions channels.
		{"chan g: {};\nfn h(): {a} { }\nfn f" + pair + "{} { return g(x); send h x; }", " /  / "},
	})
}

// Of two of one name the first is called, and sent to; the other one has a label of its own.
func TestTwoOfOneName(t *testing.T) {
	tells(t, []row{
		{"fn g(p: {a}): {} { return p; }\nfn g(q: {}): {a} { return q; return g(q); }\nfn f(x: {a}): {} { return g(x); }", "return p; >  /  / "},
		{"fn g(q: {}): {a} { }\nfn g(p: {a}): {} { return g(p); }", " / p > q | return g(p); > "},
		{"chan c: {};\nchan c: {a};\nfn f(x: {a}): {} sends c { send c x; }", " /  / send c x; > c"},
		{"chan c: {a};\nchan c: {};\nfn f(x: {a}): {} sends c { send c x; if x { f(1); } }", " /  / "},
		{"chan n: {};\nfn g(): {} { }\nfn g(): {} sends n { }\nfn f(x: {a}): {} { if x { g(); } }", " /  /  / "},
	})
}

// Of texts that are broken what could be read is told.
func TestBroken(t *testing.T) {
	tells(t, []row{
		{"fn f(x: {a}): {} { return x", "return x > "},
		{"fn f(x: {a}): {} { return x + ; return + ; return ; }", "return x + ; > "},
		{"fn f(x: {a}): {} { if { return 1; } if x return 1; if x { return 1;", "return 1; > "},
		{"fn f(x: {a}): {} { while { return 1; } while x { return", "return > "},
		{"fn f(x: {a}): {} { let = x; let y x; let = 1; return y; }", "return y; > "},
		{"fn f(x: {a}): {} { send x; send c; send 1; let : {} = x; }", "let : {} = x; > "},
		{"fn f(x: {a}): {} { g(x; }\nfn g(y: {}", "x > y / "},
		{"fn f(x: {a}): {} { g(x, ", ""},
		// Without a name nothing is made, and nothing is called.
		{"fn f(: {a}, fn: {a}): {} { fn; return 1; }", ""},
		{"fn (x: {a}): {} { return x; if x { return 1; } }\nfn (): {} { }", "return x; >  | return 1; >  / "},
		{"fn g(abcdefghijklm: {}): {} { return abcdefghijklm; }\nfn f(x: {a}): {} { g(x); abcdefghijklm = x; let abcdefghijklm = x; return abcdefghijklm; }",
			" / x > "},
		// Without a label it is 0.
		{"fn f(x: , y: {a}) { return x; return y; }", ""},
		{"fn f(x: {a}): { return x; }", ""},
		{"fn f(x: {a, a}): { } { return x; }", "return x; > "},
		{"chan c: ;\nfn f(x: {a}): {} { send c x; }", " / send c x; > c"},
		// What is no item has nothing.
		{"f(x: {a}): {} { return x; }", ""},
		{"chan c: {} { c = x; }\n?", ""},
	})
}
