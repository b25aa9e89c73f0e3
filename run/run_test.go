package run

import (
	"fmt"
	"slices"
	"strings"
	"testing"

	"undertone/api"
	"undertone/parse"
)

// read has the file of s, which must be small enough to be one.
func read(t *testing.T, s string) api.File {
	t.Helper()
	f, err := parse.File(s)
	if err != api.OK {
		t.Fatalf("File(%q) tells %d", s, err)
	}
	return f
}

var words = map[api.Errno]string{
	api.ErrForm: "form", api.ErrRange: "range", api.ErrMany: "many", api.ErrNone: "none", api.ErrName: "name",
	api.ErrFlow: "flow", api.ErrSend: "send", api.ErrFuel: "fuel", api.ErrDeep: "deep", api.ErrBad: "bad",
}

// places tells diags with the bytes of the file at which they stand.
func places(s string, l []api.Diag) string {
	var out []string
	for _, d := range l {
		text := "?"
		if d.From >= 0 && d.From <= d.To && d.To <= len(s) {
			text = s[d.From:d.To]
		}
		out = append(out, fmt.Sprintf("%s %d %q %s", words[d.Err], d.From, text, d.Name))
	}
	return strings.Join(out, " | ")
}

func TestDiags(t *testing.T) {
	for _, c := range []struct{ s, want string }{
		{"", ""},
		{"# x\n", ""},
		{"chan c: {};", ""},
		{"chan c: {a};\nfn f(x: {a}): {a} sends c { let y = x; send c y; return f(y); }", ""},
		// What was told when it was read.
		{"x", `form 0 "x" x`},
		{"# x\n\nx", `form 5 "x" x`},
		{"chan c: {}", `form 10 "" `},
		{"fn f(): {} { return 1 + ; }", `form 24 ";" ;`},
		{"\n\nfn f(): {} { return 1 + ; }", `form 26 ";" ;`},
		{"chan c {};\nfn f(): {} { return 2000000000; }", `form 7 "{" { | range 31 "2000000000" 2000000000`},
		// What names tell.
		{" fn f(): {} { q = 1; }", `none 14 "q" q`},
		{"chan c: {};\nchan c: {};", `name 17 "c" c`},
		{"chan c: {};\nfn f(x: {}, x: {}): {} sends d, c, c { f(x); g(); }", `name 24 "x" x | none 41 "d" d | name 47 "c" c | many 51 "f" f | none 57 "g" g`},
		// To which channels it sends: at its own beginning.
		{"chan c: {};\nfn f(): {} { send c 1; }", `send 12 "" c`},
		{"chan d: {};\nchan c: {};\n\nfn f(): {} { send d 1; send c 1; }\nfn g(): {} sends c { f(); }", `send 25 "" c | send 25 "" d | send 60 "" d`},
		// Which secrets it tells.
		{"#\n#\nfn f(x: {a}): {} { return x; }", `flow 23 "return x;" `},
		{"chan c: {};\nfn f(x: {a}): {} sends c { send c x; f(x + 1); let y: {} = x; }\nfn g(x: {b}): {} { f(x); }", `flow 39 "send c x;" c | flow 59 "let y: {} = x;" y | send 76 "" c | flow 97 "x" x`},
		// All of them, one behind the other, wherever they stand.
		{"chan c: {};\nfn f(x: {a}): {} { send c x; none; return x; ? }", `form 57 "?" ? | none 41 "none" none | send 12 "" c | flow 31 "send c x;" c | flow 47 "return x;" `},
		{"chan c: {};\nfn f(x: {a}): {} { return x; send c 1; none = 1; ; }\nchan d: {;\nfn g(): {} { g(1); ; }",
			`form 61 ";" ; | none 51 "none" none | send 12 "" c | flow 31 "return x;"  | form 74 ";" ; | form 95 ";" ; | many 89 "g" g`},
	} {
		f := read(t, c.s)
		if got := places(c.s, All(f)); got != c.want {
			t.Errorf("of %q is wrong\n%s, not\n%s", c.s, got, c.want)
		}
		var all []api.Diag
		for i := range f.Items {
			all = append(all, Diags(f, i)...)
		}
		if !slices.Equal(all, All(f)) {
			t.Errorf("of %q is wrong %v, and item by item %v", c.s, All(f), all)
		}
		for _, i := range []int{-1, len(f.Items), len(f.Items) + 1, 1 << 40, -1 << 63, 1<<63 - 1} {
			if got := Diags(f, i); len(got) > 0 {
				t.Errorf("of item %d of %q, which there is not, is wrong %v", i, c.s, got)
			}
		}
	}
}

// Each item has just its own.
func TestDiagsOfItems(t *testing.T) {
	s := "x\nchan c: {};\nfn f(): {} { none; }\nfn g(x: {a}): {a} { return x; }\nfn h(x: {a}): {} sends d { send c x; }"
	f := read(t, s)
	for i, want := range []string{
		`form 0 "x" x`,
		"",
		`none 27 "none" none`,
		"",
		`none 90 "d" d | send 67 "" c | flow 94 "send c x;" c`,
	} {
		if got := places(s, Diags(f, i)); got != want {
			t.Errorf("of item %d is wrong\n%s, not\n%s", i, got, want)
		}
	}
}

// told tells of a run: what came of it, in how many steps, and what was sent.
func told(r api.Ran) string {
	if r.Err != api.OK {
		if r.N != 0 || r.Steps != 0 || len(r.Events) != 0 {
			return fmt.Sprint("an error, and ", r)
		}
		return words[r.Err]
	}
	out := fmt.Sprintf("%d in %d:", r.N, r.Steps)
	for _, e := range r.Events {
		out += fmt.Sprintf(" %s%d", e.Chan, e.N)
	}
	return out
}

type row struct {
	s    string // a text, whose function f runs
	args []int
	want string
}

func runs(t *testing.T, rows []row) {
	t.Helper()
	for _, c := range rows {
		f := read(t, c.s)
		if got := told(Run(f, "f", c.args)); got != c.want {
			t.Errorf("f%v of %q comes to %s, not %s (%s)", c.args, c.s, got, c.want, places(c.s, All(f)))
		}
	}
}

func l(args ...int) []int { return args }

func TestExpressions(t *testing.T) {
	of := func(e string) string { return "fn f(x: {}, y: {}): {} { return " + e + "; }" }
	const least, most = -1 << 63, 1<<63 - 1
	runs(t, []row{
		{of("7"), l(1, 2), "7 in 2:"},
		{of("0"), l(1, 2), "0 in 2:"},
		{of("1000000000"), l(1, 2), "1000000000 in 2:"},
		{of("x"), l(1, 2), "1 in 2:"},
		{of("y"), l(1, 2), "2 in 2:"},
		{of("x"), l(least, 2), "-9223372036854775808 in 2:"},
		{of("((y))"), l(1, 2), "2 in 2:"},
		{of("x + y"), l(3, 4), "7 in 4:"},
		{of("x - y"), l(3, 4), "-1 in 4:"},
		{of("x * y"), l(3, -4), "-12 in 4:"},
		{of("x < y"), l(3, 4), "1 in 4:"},
		{of("x < y"), l(4, 4), "0 in 4:"},
		{of("x < y"), l(5, 4), "0 in 4:"},
		{of("x < y"), l(-5, 4), "1 in 4:"},
		{of("x = y"), l(3, 4), "0 in 4:"},
		{of("x = y"), l(4, 4), "1 in 4:"},
		{of("x = y"), l(-4, 4), "0 in 4:"},
		{of("1 + x * 2 - y"), l(10, 3), "18 in 8:"},
		{of("x - y - 1"), l(10, 3), "6 in 6:"},
		{of("x - (y - 1)"), l(10, 3), "8 in 6:"},
		{of("(x < y) + (x = y) * 2"), l(3, 3), "2 in 10:"},
		{of("x < y = 1"), l(3, 4), "1 in 6:"},
		{of("0 * (x - 1)"), l(3, 4), "0 in 6:"},
		// What is too great goes round.
		{of("x + y"), l(most, 1), "-9223372036854775808 in 4:"},
		{of("x + y"), l(least, least), "0 in 4:"},
		{of("x - y"), l(least, 1), "9223372036854775807 in 4:"},
		{of("x - y"), l(0, least), "-9223372036854775808 in 4:"},
		{of("x * y"), l(1<<62, 2), "-9223372036854775808 in 4:"},
		{of("x * y"), l(1<<62, 4), "0 in 4:"},
		{of("x * y"), l(least, -1), "-9223372036854775808 in 4:"},
		{of("x * y"), l(most, most), "1 in 4:"},
		{of("x * x * x"), l(3000000001, 0), "5886428331384838657 in 6:"},
		{of("1000000000 * 1000000000 * 1000000000"), l(0, 0), "-6930898827444486144 in 6:"},
		// What is held against another is what it is, however far apart.
		{of("x < y"), l(least, most), "1 in 4:"},
		{of("x < y"), l(most, least), "0 in 4:"},
		{of("x = y"), l(1<<32, 0), "0 in 4:"},
		{of("x = y"), l(least, most), "0 in 4:"},
	})
}

func TestStatements(t *testing.T) {
	const c = "chan c: {};\nchan d: {};\n"
	of := func(body string) string { return c + "fn f(x: {}): {} sends c, d { " + body + " }" }
	runs(t, []row{
		{of(""), l(5), "0 in 0:"},
		{of("let y = x;"), l(5), "0 in 2:"},
		{of("let y: {} = x; return y;"), l(5), "5 in 4:"},
		{of("let y: {a} = x + 1; return 2;"), l(5), "2 in 6:"},
		{of("x = x + 1; return x;"), l(5), "6 in 6:"},
		{of("let y = x; y = y * y; x = 1; return y + x;"), l(5), "26 in 12:"},
		{of("let y = x; x = 1; return y;"), l(5), "5 in 6:"},
		{of("send c x;"), l(5), "0 in 2: c5"},
		{of("send c x; send d x + 1; send c 0 - x; send c x;"), l(5), "0 in 12: c5 d6 c-5 c5"},
		{of("x;"), l(5), "0 in 2:"},
		{of("x + 1; x * x;"), l(5), "0 in 8:"},
		// What was told last comes of it, and all that stands behind it is done.
		{of("return 1; return 2;"), l(5), "2 in 4:"},
		{of("return x; x = 3; send c x;"), l(5), "5 in 6: c3"},
		{of("return 1; if x { return 2; } x;"), l(5), "2 in 8:"},
		{of("return 1; if x { return 2; } x;"), l(0), "1 in 6:"},
		{of("if x { return 2; } return 0;"), l(5), "0 in 6:"},
		// What isn't 0 is so.
		{of("if x { send c 1; }"), l(1), "0 in 4: c1"},
		{of("if x { send c 1; }"), l(-1), "0 in 4: c1"},
		{of("if x { send c 1; }"), l(-1 << 63), "0 in 4: c1"},
		{of("if x { send c 1; }"), l(1 << 32), "0 in 4: c1"},
		{of("if x { send c 1; }"), l(0), "0 in 2:"},
		{of("if x { send c 1; } else { send d 1; }"), l(2), "0 in 4: c1"},
		{of("if x { send c 1; } else { send d 1; send d 2; }"), l(0), "0 in 6: d1 d2"},
		{of("if x { } else { send d 1; }"), l(2), "0 in 2:"},
		{of("if x { } else { if x + 1 { send d 7; } else { send c 7; } }"), l(0), "0 in 8: d7"},
		{of("while x { x = x - 1; }"), l(0), "0 in 2:"},
		{of("while x { x = x - 1; }"), l(1), "0 in 8:"},
		{of("while x { x = x - 1; } return x;"), l(3), "0 in 22:"},
		{of("while x + 2 { x = x - 1; send c x; }"), l(-1), "0 in 14: c-2"},
		{of("let i = 0; while i < x { send c i * i; i = i + 1; }"), l(3), "0 in 42: c0 c1 c4"},
		{of("let i = 0; while i < x { let k = 0; while k < i { send c k; k = k + 1; } i = i + 1; }"), l(3), "0 in 78: c0 c0 c1"},
		{of("while x { if x = 2 { return 7; } x = x - 1; }"), l(3), "7 in 34:"},
		// What is set in a block is set; what is made in it is made there, and each time anew.
		{of("let y = 1; if x { y = 2; let z = 3; y = y + z; } return y;"), l(1), "5 in 14:"},
		{of("if x { let y = 1; send c y; } else { let y = 2; send c y; } let y = 3; return y;"), l(1), "3 in 10: c1"},
		{of("if x { let y = 1; send c y; } else { let y = 2; send c y; } let y = 3; return y;"), l(0), "3 in 10: c2"},
		{of("while x { let y = 0; y = y + x; send c y; x = x - 1; }"), l(3), "0 in 44: c3 c2 c1"},
		{of("while x { if x { let y = x; send d y; } let y = 0 - x; send c y; x = x - 1; } let y = 9; send c y;"), l(2), "0 in 42: d2 c-2 d1 c-1 c9"},
		// Places and names of one text are apart.
		{"chan f: {};\nfn f(f: {}): {} sends f { send f f; if f { return f(f - 1) + 1; } }", l(2), "2 in 26: f2 f1 f0"},
	})
}

func TestCalls(t *testing.T) {
	const one = "chan c: {};\nfn g(x: {}): {} sends c { send c x; return x + 1; }\n"
	of := func(body string) string { return one + "fn f(x: {}): {} sends c { " + body + " }" }
	runs(t, []row{
		{of("return g(x);"), l(5), "6 in 9: c5"},
		{of("g(x);"), l(5), "0 in 9: c5"},
		{of("let y = g(x); return y;"), l(5), "6 in 11: c5"},
		// Arguments from the left, each one with what is called in it, then it is called itself.
		{of("return g(1) - g(2) * g(3);"), l(5), "-10 in 27: c1 c2 c3"},
		{of("return g(g(g(x)));"), l(5), "8 in 23: c5 c6 c7"},
		{of("return h(g(1), g(2), g(3));") + "\nfn h(x: {}, y: {}, z: {}): {} sends c { send c 0; return x * 100 + y * 10 + z; }", l(5), "234 in 38: c1 c2 c3 c0"},
		{of("return 0 * g(1);"), l(5), "0 in 11: c1"},
		{of("return (0 < 1) + g(1) = g(3);"), l(5), "0 in 22: c1 c3"},
		{of("if g(x) { send c 9; }"), l(5), "0 in 11: c5 c9"},
		{of("if g(x) { send c 9; } else { send c 8; }"), l(-1), "0 in 11: c-1 c8"},
		{of("while g(x) { x = x + 1; }"), l(-3), "0 in 35: c-3 c-2 c-1"},
		{of("send c g(x);"), l(5), "0 in 9: c5 c6"},
		{of("x = g(x); x = g(x); return x;"), l(5), "7 in 20: c5 c6"},
		// What a function does to its locals it does to no other's.
		{"fn g(x: {}): {} { x = 9; let y = 8; return x + y; }\nfn f(x: {}): {} { let y = 1; g(x); return x * 10 + y; }", l(5), "51 in 19:"},
		{"fn f(x: {}): {} { let y = x; if x { f(x - 1); } return y; }", l(3), "3 in 39:"},
		{"fn f(x: {}): {} { if x { return x * f(x - 1); } else { return 1; } }", l(5), "120 in 49:"},
		// What comes of one that tells nothing is 0, whatever was told ahead.
		{"fn g(): {} { }\nfn f(): {} { return 7; return g(); }", nil, "0 in 4:"},
		{"fn g(x: {}): {} { if x { return x; } }\nfn f(): {} { return g(3) * 10 + g(0); }", nil, "30 in 14:"},
		// Parameters are what they are in turn.
		{"fn f(a: {}, b: {}, c: {}, d: {}, e: {}): {} { return a * 10000 + b * 1000 + c * 100 + d * 10 + e; }", l(1, 2, 3, 4, 5), "12345 in 18:"},
		{"fn g(a: {}, b: {}): {} { return a - b; }\nfn f(a: {}, b: {}): {} { return g(b, a); }", l(1, 5), "4 in 8:"},
		// They call one another, wherever they stand.
		{"fn f(x: {}): {} { return odd(x); }\nfn even(x: {}): {} { if x { return odd(x - 1); } else { return 1; } }\nfn odd(x: {}): {} { if x { return even(x - 1); } else { return 0; } }", l(7), "1 in 56:"},
		// With labels everything is done alike.
		{"chan s: {a,b};\nfn f(x: {a}, y: {b}): {a,b} sends s { let z = x; if y { let q = z + y; send s q; } return x * y; }", l(3, 4), "12 in 14: s7"},
		{"chan s: {a,b};\nfn f(x: {a}, y: {b}): {a,b} sends s { let z = x; if y { let q = z + y; send s q; } return x * y; }", l(3, 0), "0 in 8:"},
	})
}

func TestWrong(t *testing.T) {
	const right = "chan c: {};\nfn f(x: {}): {} { return x; }\nfn g(): {} { return 1; }\n"
	for _, c := range []struct {
		s, name string
		args    []int
		want    string
	}{
		{right, "f", l(3), "3 in 2:"},
		{right, "g", nil, "1 in 2:"},
		{right, "g", l(), "1 in 2:"},
		{right, "f", nil, "many"},
		{right, "f", l(), "many"},
		{right, "f", l(1, 2), "many"},
		{right, "f", make([]int, 100000), "many"},
		{right, "g", l(0), "many"},
		{right, "h", nil, "none"},
		{right, "h", l(1, 2), "none"},
		{right, "c", nil, "none"},
		{right, "x", nil, "none"},
		{right, "", nil, "none"},
		{right, "", l(1), "none"},
		{right, "F", l(1), "none"},
		{right, "f ", l(1), "none"},
		{right, "ff", l(1), "none"},
		{right, "fn", l(1), "none"},
		{right, "\x00\xff", l(1), "none"},
		{"", "f", nil, "none"},
		{"# f", "f", nil, "none"},
		// Something wrong anywhere is told first.
		{right + "x", "f", l(3), "bad"},
		{right + "x", "f", nil, "bad"},
		{right + "x", "h", nil, "bad"},
		{right + "x", "", nil, "bad"},
		{"x\n" + right, "f", l(3), "bad"},
		{right + "chan d: {}", "f", l(3), "bad"},
		{right + "chan c: {};", "f", l(3), "bad"},
		{right + "fn h(): {} { return ; }", "f", l(3), "bad"},
		{right + "fn h(): {} { none; }", "f", l(3), "bad"},
		{right + "fn h(): {} sends none { }", "f", l(3), "bad"},
		{right + "fn h(): {} { f(); }", "f", l(3), "bad"},
		{right + "fn h(): {} { send c 1; }", "f", l(3), "bad"},
		{right + "fn h(x: {a}): {} { f(x); }", "f", l(3), "bad"},
		{right + "fn f(): {} { }", "f", l(3), "bad"},
		{right + "fn h(x: {}): {} { let x = 1; }", "f", l(3), "bad"},
	} {
		if got := told(Run(read(t, c.s), c.name, c.args)); got != c.want {
			t.Errorf("%s of %d of %q comes to %s, not %s", c.name, len(c.args), c.s, got, c.want)
		}
	}
}

// burn takes 6 steps for each of x, and 2.
const burn = "while x { x = x - 1; } "

func TestFuel(t *testing.T) {
	of := func(body string) string { return "chan c: {};\nfn f(x: {}): {} sends c { " + body + " }" }
	runs(t, []row{
		{of(burn), l(499), "0 in 2996:"},
		{of(burn), l(500), "fuel"},
		{of(burn + "x; send c 1;"), l(499), "0 in 3000: c1"},
		// One more, whatever it is: a statement, its expression, a part of that, an argument, a while.
		{of(burn + "x; send c 1; x;"), l(499), "fuel"},
		{of(burn + "x; x + 1;"), l(499), "fuel"},
		{of(burn + "return x + 1;"), l(499), "1 in 3000:"},
		{of(burn + "return x + 1; while x { }"), l(499), "fuel"},
		{of(burn + "return x + 1; if x { }"), l(499), "fuel"},
		{of(burn + "let y = x; return x; send c 5;"), l(499), "fuel"},
		{of(burn + "x; while x { }"), l(499), "0 in 3000:"},
		{of(burn + "x + 1; let i = 1;"), l(499), "fuel"},
		{of(burn+"g(1);") + "\nfn g(x: {}): {} { }", l(499), "0 in 2999:"},
		{of(burn+"g(g(1));") + "\nfn g(x: {}): {} { }", l(499), "0 in 3000:"},
		{of(burn+"g(g(g(1)));") + "\nfn g(x: {}): {} { }", l(499), "fuel"},
		{of(burn+"g();") + "\nfn g(): {} { return 1; }", l(499), "0 in 3000:"},
		{of(burn+"x; g();") + "\nfn g(): {} { return 1; }", l(499), "fuel"},
		{of(burn+"x; g();") + "\nfn g(): {} { }", l(499), "0 in 3000:"},
		// What is sent ahead of it is told no more.
		{of("send c 1; return 5; while 1 { send c 2; }"), l(0), "fuel"},
		// Loops that do not end, of which some go round.
		{of("while 1 { }"), l(0), "fuel"},
		{of("while 1 { while 1 { } }"), l(0), "fuel"},
		{of("while x { x = x + 2; }"), l(1), "fuel"},
		{of("while x { x = x * 2; }"), l(1), "0 in 386:"},
		{of("while 0 < x { x = x + 1; }"), l(1<<63 - 3), "0 in 28:"},
		{of("while x = x { let y = x; y = y; }"), l(0), "fuel"},
		{of("while x = 0 { if x { } else { } }"), l(0), "fuel"},
		{of("while g() { }") + "\nfn g(): {} { return 1; }", l(0), "fuel"},
		{of("return g() + g();") + "\nfn g(): {} { while 1 { } }", l(0), "fuel"},
		{of("while x { send c x; x = f(x - 1); }"), l(9), "0 in 101: c9 c8 c7 c6 c5 c4 c3 c2 c1"},
		// Calls that are many, and not deep.
		{of("if x { f(x - 1) + f(x - 1); }"), l(20), "fuel"},
		{of("if x { f(x - 1) + f(x - 1); }"), l(7), "0 in 1780:"},
		{of("if x { f(x - 1) + f(x - 1); }"), l(8), "fuel"},
	})
	long := of("return x" + strings.Repeat("+1", 1498) + ";")
	runs(t, []row{{long, l(0), "1498 in 2998:"}, {of("x;" + burn), l(499), "0 in 2998:"}})
	long = of("return x" + strings.Repeat("+1", 1499) + ";")
	runs(t, []row{{long, l(1), "1500 in 3000:"}})
	long = of("return x" + strings.Repeat("+1", 1500) + ";")
	runs(t, []row{{long, l(1), "fuel"}})
}

func TestDeep(t *testing.T) {
	const down = "fn f(x: {}): {} { if x { return f(x - 1) + 1; } }"
	const empty = "\nfn e(): {} { }"
	runs(t, []row{
		{down, l(38), "38 in 344:"},
		{down, l(39), "39 in 353:"},
		{down, l(40), "deep"},
		{down, l(41), "deep"},
		{down, l(-1), "deep"},
		{"fn f(): {} { return f(); }", nil, "deep"},
		{"fn f(): {} { f(); while 1 { } }", nil, "deep"},
		{"fn f(): {} { while f() { } }", nil, "deep"},
		{"chan c: {};\nfn f(): {} sends c { send c 1; f(); }", nil, "deep"},
		// One that does nothing is called all the same.
		{"fn f(x: {}): {} { if x { f(x - 1); } else { e(); } }" + empty, l(38), "0 in 270:"},
		{"fn f(x: {}): {} { if x { f(x - 1); } else { e(); } }" + empty, l(39), "deep"},
		// They count in one another, whoever they are.
		{"fn f(x: {}): {} { if x { g(x - 1); } }\nfn g(x: {}): {} { if x { h(x - 1); } }\nfn h(x: {}): {} { if x { f(x - 1); } }", l(39), "0 in 275:"},
		{"fn f(x: {}): {} { if x { g(x - 1); } }\nfn g(x: {}): {} { if x { h(x - 1); } }\nfn h(x: {}): {} { if x { f(x - 1); } }", l(40), "deep"},
		// One behind the other, or as arguments, they are not in one another.
		{"fn f(x: {}): {} { while x { e(); x = x - 1; } }" + empty, l(300), "0 in 2402:"},
		{"fn f(x: {}): {} { " + strings.Repeat("e();", 40) + " }" + empty, l(0), "0 in 80:"},
		{"fn f(x: {}): {} { " + strings.Repeat("x = x + e() + e() + e();", 30) + " }" + empty, l(0), "0 in 240:"},
		{"fn f(x: {}): {} { while x { s(s(s(s(s(s(s(s(x)))))))); x = x - 1; } }\nfn s(x: {}): {} { }", l(50), "0 in 802:"},
		{"fn f(x: {}): {} { if x { f(x - 1); f(0); f(0); } }", l(39), "0 in 665:"},
		// Arguments are asked ahead of the call, and what they call is in as many.
		{"fn f(x: {}): {} { if x { f(x - 1 + e()); } }" + empty, l(39), "0 in 353:"},
		{"fn f(x: {}): {} { if x { f(x - 1); } else { g(e()); } }\nfn g(x: {}): {} { }" + empty, l(38), "0 in 271:"},
		{"fn f(x: {}): {} { if x { f(x - 1); } else { g(e()); } }\nfn g(x: {}): {} { }" + empty, l(39), "deep"},
	})
}

// Of too many steps and too many calls that is told which comes first.
func TestFuelOrDeep(t *testing.T) {
	// Ahead of arg there are, beside 6 for each of x, 2 steps of the while, 3 of d(38), 38 times 7, and 4 of d in 39 others: 275.
	of := func(arg string) string {
		return "fn f(x: {}): {} { " + burn + "d(38); }\nfn d(x: {}): {} { if x { d(x - 1); } else { d(" + arg + "); } }"
	}
	runs(t, []row{
		{of("1"), l(0), "deep"},
		// One step is left.
		{of("1"), l(454), "deep"},
		{of("1 + 1"), l(454), "fuel"},
		{of("1"), l(455), "fuel"},
		// Seven are.
		{of("x + x + x + x"), l(453), "deep"},
		{of("x + x + x + x + x"), l(453), "fuel"},
		{of("x * (x * (x * (x * x)))"), l(453), "fuel"},
		// What an argument calls is in as many.
		{of("d(1)"), l(0), "deep"},
		{of("d(1) + d(1)"), l(454), "fuel"},
	})
}

func TestSeen(t *testing.T) {
	f := read(t, "chan n: {};\nchan a: {a};\nchan b: {b};\nchan ab: {a,b};\nchan h: {h};\nchan all: {a,b,c,d,e,f,g,h};\nfn g(): {} { }\nx\nchan n: {a};")
	var every []api.Event
	for i, name := range []string{"n", "a", "b", "ab", "h", "all", "g", "x", "zz", "", "N", "n ", "\xff"} {
		every = append(every, api.Event{Chan: name, N: i})
	}
	show := func(l []api.Event) string { return strings.TrimPrefix(told(api.Ran{Events: l}), "0 in 0:") }
	for _, c := range []struct {
		n    int
		want string
	}{
		{0, " n0"},
		{1, " n0 a1"},
		{2, " n0 b2"},
		{3, " n0 a1 b2 ab3"},
		{4, " n0"},
		{127, " n0 a1 b2 ab3"},
		{128, " n0 h4"},
		{254, " n0 b2 h4"},
		{255, " n0 a1 b2 ab3 h4 all5"},
		// What is no label has the tags that it has.
		{256, " n0"},
		{257, " n0 a1"},
		{-1, " n0 a1 b2 ab3 h4 all5"},
		{-256, " n0"},
		{-1 << 63, " n0"},
		{1<<63 - 1, " n0 a1 b2 ab3 h4 all5"},
	} {
		if got := show(Seen(f, every, c.n)); got != c.want {
			t.Errorf("who may hear %d hears%s, not%s", c.n, got, c.want)
		}
	}
	// All of them, in turn, as often as they were sent, whatever the number.
	some := []api.Event{{Chan: "b", N: 2}, {Chan: "n", N: -1}, {Chan: "a", N: 7}, {Chan: "n", N: 1 << 62}, {Chan: "n", N: -1}, {Chan: "zz"}, {Chan: "a", N: 7}, {Chan: "n"}}
	if got, want := show(Seen(f, some, 1)), " n-1 a7 n4611686018427387904 n-1 a7 n0"; got != want {
		t.Errorf("of many is heard%s, not%s", got, want)
	}
	for _, none := range [][]api.Event{nil, {}} {
		if got := Seen(f, none, 255); len(got) > 0 {
			t.Errorf("of nothing is heard %v", got)
		}
	}
	if got := Seen(api.File{}, every, 255); len(got) > 0 {
		t.Errorf("without channels is heard %v", got)
	}
	// Other labels, and such as are none.
	for _, c := range []struct{ n, label, seen int }{{1, 1, 1}, {1, 2, 0}, {1, 257, 1}, {0, 256, 1}, {0, -256, 1}, {254, -1, 0}, {255, -1, 1}, {0, 1 << 62, 1}} {
		f.Items[0].Label = c.label
		if got := Seen(f, some[1:2], c.n); len(got) != c.seen {
			t.Errorf("of a channel of label %d who may hear %d hears %v", c.label, c.n, got)
		}
	}
}
