package serve

import (
	"math"
	"strings"
	"testing"

	"undertone/api"
)

// answers holds what is answered of s against turns, and that s is left as it is.
func answers(t *testing.T, s string, l ...turn) {
	t.Helper()
	var asks []api.Ask
	for _, c := range l {
		asks = append(asks, c.ask, text())
	}
	got := asked(t, s, asks)
	for i, c := range l {
		if !same(got[2*i:2*i+2], []api.Reply{c.want, says(s)}) {
			t.Errorf("of %q question %d, %s, is answered\n%s, not\n%s", s, i, short(c.ask), short(got[2*i:2*i+2]), short(c.want))
		}
	}
}

func TestLabels(t *testing.T) {
	for _, c := range []struct{ s, want string }{
		{"# x\n", ""},
		{"chan c:{b,a};", "chan c: {a,b};\n"},
		{"fn f(x:{a}):{}{let y=1;let z=1;y=x;let q:{b}=z;}",
			"fn f(x: {a}): {} {\n  let y: {a} = 1;\n  let z: {} = 1;\n  y = x;\n  let q: {b} = z;\n}\n"},
		{three, "chan c: {a};\nfn f(x: {a}): {a} sends c {\n  let y: {a} = x;\n  if y {\n    send c x;\n  }\n  return y;\n}\nfn g(): {} {\n  return 5;\n}\n"},
		// Whatever else is wrong: names, sends, secrets told.
		{"fn f(x: {a}): {} sends d { let y = x; z; send c y; return y; }\nfn f(): {} { f(); }",
			"fn f(x: {a}): {} sends d {\n  let y: {a} = x;\n  z;\n  send c y;\n  return y;\n}\nfn f(): {} {\n  f();\n}\n"},
	} {
		answers(t, c.s, turn{labels(), says(c.want)}, turn{labels(), says(c.want)})
	}
}

// Of what can't be read rightly no labels are found, wherever that is.
func TestLabelsOfBroken(t *testing.T) {
	for _, s := range []string{"?", "fn", "chan c: {}", "fn f(): {} { 1 }", "x\nchan c: {};", "chan c: {};\nfn f(): {} { }\nchan d: {a,a};", "fn f(): {} { let y = 1000000001; }\nfn g(): {} { }", "fn f(): {} { } ;"} {
		answers(t, s, turn{labels(), no(api.ErrBad)})
	}
	// It is what it now is that is asked.
	s := "fn f(): {} { return 1 + ; }"
	play(t, turn{open(s), fresh(1)}, turn{labels(), no(api.ErrBad)}, turn{edit(24, 24, "2"), fresh(1)},
		turn{labels(), says("fn f(): {} {\n  return 1 + 2;\n}\n")}, turn{edit(0, 2, "nf"), fresh(1)}, turn{labels(), no(api.ErrBad)})
}

// runs has what is run below.
const runs = `chan c: {};
chan s: {a};
fn f(x: {}, h: {a}): {} sends c, s {
  let i = 0;
  while i < x { send c i * i; i = i + 1; }
  send s h;
  return i;
}
fn none(): {} { }
fn five(a: {}, b: {}, x: {}, y: {}, z: {}): {} { return a - b - x - y - z; }
fn loop(): {} { while 1 { } }
fn deep(): {} { deep(); }
`

func TestRun(t *testing.T) {
	e := func(name string, n int) api.Event { return api.Event{Chan: name, N: n} }
	answers(t, runs,
		turn{ran("f", 3, 7), sent(3, 46, e("c", 0), e("c", 1), e("c", 4), e("s", 7))},
		turn{ran("f", 0, math.MinInt), sent(0, 10, e("s", math.MinInt))},
		turn{ran("none"), comes(0, 0)},
		turn{ran("five", 1, 2, 3, 4, 5), comes(-13, 10)},
		turn{ran("five", math.MinInt, 1, 0, 0, 0), comes(math.MaxInt, 10)},
		// Beside an error nothing else is told, whatever was sent.
		turn{ran("f", math.MaxInt, 7), no(api.ErrFuel)},
		turn{ran("loop"), no(api.ErrFuel)},
		turn{ran("deep"), no(api.ErrDeep)},
		turn{ran("f"), no(api.ErrMany)}, turn{ran("f", 1), no(api.ErrMany)}, turn{ran("f", 1, 2, 3), no(api.ErrMany)},
		turn{ran("none", 0), no(api.ErrMany)}, turn{ran("five", 1, 2, 3, 4), no(api.ErrMany)}, turn{ran("five", 1, 2, 3, 4, 5, 6), no(api.ErrMany)},
		turn{ran("none", make([]int, 5000)...), no(api.ErrMany)},
		turn{ran("g"), no(api.ErrNone)}, turn{ran("c"), no(api.ErrNone)}, turn{ran("g", 1, 2, 3, 4, 5, 6), no(api.ErrNone)},
		turn{ran(""), no(api.ErrNone)}, turn{ran("i"), no(api.ErrNone)}, turn{ran(" f", 3, 7), no(api.ErrNone)}, turn{ran("fn none"), no(api.ErrNone)},
		turn{ran(strings.Repeat("f", 5000)), no(api.ErrNone)},
	)
	// What was run leaves nothing behind.
	f := turn{ran("f", 1, 2), sent(1, 22, e("c", 0), e("s", 2))}
	answers(t, runs, f, turn{ran("loop"), no(api.ErrFuel)}, f, turn{ran("deep"), no(api.ErrDeep)}, f, f)
}

// Nothing is run of a file with something wrong, wherever that is.
func TestRunOfWrong(t *testing.T) {
	for _, more := range []string{"?", "\n?", "chan d", "chan c: {};", "fn g(): {} { x; }", "fn g(): {} { f(); }", "fn g(): {} { send c 1; }", "fn g(x: {a}): {} { return x; }"} {
		answers(t, runs+more, turn{ran("f", 1, 2), no(api.ErrBad)}, turn{ran("none"), no(api.ErrBad)}, turn{ran("none", 1), no(api.ErrBad)}, turn{ran("g", 1), no(api.ErrBad)})
	}
	play(t, turn{open(runs), fresh(7)}, turn{edit(0, 4, "nahc"), fresh(1)}, turn{ran("none"), no(api.ErrBad)}, turn{edit(0, 4, "chan"), fresh(1)}, turn{ran("none"), comes(0, 0)})
}

// Fields that a kind has not mean nothing, whatever stands in them.
func TestOtherFields(t *testing.T) {
	much, many := strings.Repeat("x", 100000), make([]int, 10000)
	y := strings.Index(three, "y =")
	for _, c := range []turn{
		{open(three), fresh(0)}, {edit(0, 0, ""), fresh(0)}, {edit(4, 4, "fn h(): {} { }\n"), fresh(1)}, {edit(4, 3, ""), no(api.ErrRange)},
		{diags(), wrong()}, {hover(y + 4), label(1)}, {hover(0), no(api.ErrNone)}, {def(y), from(y)}, {def(0), no(api.ErrNone)},
		{call(y, "zed"), fresh(1)}, {call(y, "x"), no(api.ErrName)}, {labels(), asked(t, three, []api.Ask{labels()})[0]},
		{ran("f", 3), sent(3, 8, api.Event{Chan: "c", N: 3})}, {ran("g", 3), no(api.ErrMany)}, {text(), says(three)},
	} {
		play(t, turn{open(three), fresh(3)}, c)
		a := c.ask
		if a.Kind != api.AskRun {
			a.Args = many
		}
		switch a.Kind {
		case api.AskDiags, api.AskHover, api.AskDef, api.AskLabels, api.AskText:
			a.Text = much
		}
		if a.Kind != api.AskEdit {
			a.To = math.MinInt
		}
		switch a.Kind {
		case api.AskOpen, api.AskDiags, api.AskLabels, api.AskRun, api.AskText:
			a.From = math.MaxInt
		}
		play(t, turn{open(three), fresh(3)}, turn{a, c.want})
	}
}
