package serve

import (
	"math"
	"strings"
	"testing"

	"undertone/api"
)

// asked answers questions about s, as many as there may be at once.
func asked(t *testing.T, s string, l []api.Ask) []api.Reply {
	t.Helper()
	var out []api.Reply
	for len(l) > 0 {
		n := min(len(l), api.MaxAsks-1)
		got, err := Play(append([]api.Ask{open(s)}, l[:n]...))
		if err != api.OK || len(got) != n+1 {
			t.Fatalf("of %d questions come %d, %d", n+1, len(got), err)
		}
		out = append(out, got[1:]...)
		l = l[n:]
	}
	return out
}

// far has places far off, and right outside of a text of n bytes.
func far(n int) []int {
	return []int{-1, -2, -n, n, n + 1, 2 * n, math.MaxInt, math.MinInt, math.MaxInt - 1, math.MinInt + 1, math.MinInt + n}
}

// below has texts, and what stands below each byte of them: lines, each with one below it.
func below(lines string) (s, marks string) {
	l := strings.Split(strings.Trim(lines, "\n"), "\n")
	for i := 0; i < len(l); i += 2 {
		s += l[i] + "\n"
		mark := ""
		if i+1 < len(l) {
			mark = l[i+1]
		}
		marks += mark + strings.Repeat(" ", len(l[i])-len(mark)+1)
	}
	return s, marks
}

// everywhere asks of each place of s, and of some outside.
func everywhere(t *testing.T, s string, ask func(at int) api.Ask, want func(at int) api.Reply) {
	t.Helper()
	places := far(len(s))
	for k := range s {
		places = append(places, k)
	}
	var l []api.Ask
	for _, k := range places {
		l = append(l, ask(k))
	}
	for i, r := range asked(t, s, l) {
		k := places[i]
		w := no(api.ErrNone)
		if k >= 0 && k < len(s) {
			w = want(k)
		}
		if !same([]api.Reply{r}, []api.Reply{w}) {
			t.Errorf("of byte %d of %q is answered %s, not %s", k, s, short(r), short(w))
		}
	}
}

// Below each byte stands the label of what stands there, if there is one.
func TestHover(t *testing.T) {
	for _, lines := range []string{
		`x`, `chan c: {a};`, `
# 1 x f(x) is no expression

fn f(x: {a}): {} { f( x ) + 1 ; } # x
                   0001000000
`, `
fn f(x: {b}): {} { x;}
                   2
fn g(x: {a,b}): {b} { x;x; }
                      3 3
chan c: {};

fn f(y: {c}): {} sends c { return y
                                  4
 ; send c y; }
          4
`, `
fn f(x: {a}, y: {b}): {} { if x { y; f(2); while y { return 2; } } else { x * y; } }
                              1   3  1111        3          3             13333
`, `
fn f(x: {a}, y: {b}): {} { let z = y; z = x + z; let q: {c} = 1; q; }
                                   2      13332               0  4
`, `
fn f(x: {a}): {} { x + ; ( 1 ; z(x, 2) ; (((x))); y((x)); return ((1) + (x)); }
                   1111        0010000      1     000100           0111111
`, `
fn f(x: {a}): {} { no(x, 2); none; return }
                   00010000  0000
?

 fn x

fn g(): {h} { 7; g(); }
                 888
`,
	} {
		s, marks := below(lines)
		everywhere(t, s, hover, func(at int) api.Reply {
			switch {
			case marks[at] == ' ':
				return no(api.ErrNone)
			case marks[at] == '8':
				return label(128)
			}
			return label(int(marks[at] - '0'))
		})
	}
}

// Below each byte of a name stands a sign that stands also, or as a great letter, where what it means is made.
func TestDef(t *testing.T) {
	for _, lines := range []string{
		`x`, `fn`,
		`
# fn f(x)

chan c: {a};
     C
fn f(x: {a}, why: {}): {} sends c { let z = x; send c why; z = f(z, x); if x { let q = why; q; } q; }
   F X       YYY                c       Z   x       c yyy  z   f z  x      x       Q   yyy  Q
`, `
fn c(c: {}): {} { c(c); }
   F X            f x
chan c: {};
     C
fn g(): {} sends c { send c c(none); h(); c; }
   G             c        c f
`, `
chan c: {};
     C
chan c: {};
     D
fn f(x: {}, x: {}): {} sends c, no { x; let x = x; x; 1 }
   F X      Y                c       y      Z   y  z
? x c f

fn f(x: {}): {} { f(x, 1); g; x
   G W            f w         w
`,
	} {
		s, marks := below(lines)
		made := func(mark string) int { return strings.Index(marks, strings.ToUpper(mark)) }
		everywhere(t, s, def, func(at int) api.Reply {
			if marks[at] == ' ' {
				return no(api.ErrNone)
			}
			return from(made(marks[at : at+1]))
		})
	}
}

// What ends a text is there as well, and nothing is behind it.
func TestPlacesAtTheEnd(t *testing.T) {
	for _, ahead := range []string{"", "chan c: {a};\n", "# x\nfn x(x: {c}): {} { x; }\n"} {
		s := ahead + "fn f(x: {b}): {} { x"
		n, items := len(s), 1+strings.Count(ahead, "{ x")+strings.Count(ahead, "chan")
		play(t, turn{open(s), fresh(items)},
			turn{hover(n - 1), label(2)}, turn{hover(n), no(api.ErrNone)}, turn{hover(n - 2), no(api.ErrNone)}, turn{hover(len(ahead)), no(api.ErrNone)},
			turn{def(n - 1), from(len(ahead) + 5)}, turn{def(n), no(api.ErrNone)}, turn{def(len(ahead)), no(api.ErrNone)}, turn{def(0), no(api.ErrNone)},
			turn{edit(n, n, "x"), fresh(1)}, turn{hover(n), label(0)}, turn{def(n), no(api.ErrNone)},
			turn{edit(n, n+1, "; }"), fresh(1)}, turn{call(n, "y"), no(api.ErrNone)}, turn{call(n-1, "y"), fresh(1)},
			turn{text(), says(ahead + "fn f(y: {b}): {} { y; }")}, turn{hover(n - 1), label(2)},
		)
	}
}
