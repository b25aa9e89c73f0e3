package serve

import (
	"fmt"
	"math"
	"reflect"
	"strings"
	"testing"

	"undertone/api"
)

// plain copies replies, so that lists without entries are nil.
func plain(l []api.Reply) []api.Reply {
	var out []api.Reply
	for _, r := range l {
		r.Diags = append([]api.Diag(nil), r.Diags...)
		r.Ran.Events = append([]api.Event(nil), r.Ran.Events...)
		out = append(out, r)
	}
	return out
}

func same(a, b []api.Reply) bool { return reflect.DeepEqual(plain(a), plain(b)) }

// short shows something, but not all of what is long.
func short(v any) string {
	s := fmt.Sprintf("%+v", v)
	return s[:min(len(s), 600)]
}

// What may be asked.
func open(s string) api.Ask { return api.Ask{Kind: api.AskOpen, Text: s} }
func edit(from, to int, s string) api.Ask {
	return api.Ask{Kind: api.AskEdit, From: from, To: to, Text: s}
}
func diags() api.Ask                { return api.Ask{Kind: api.AskDiags} }
func hover(at int) api.Ask          { return api.Ask{Kind: api.AskHover, From: at} }
func def(at int) api.Ask            { return api.Ask{Kind: api.AskDef, From: at} }
func call(at int, s string) api.Ask { return api.Ask{Kind: api.AskRename, From: at, Text: s} }
func labels() api.Ask               { return api.Ask{Kind: api.AskLabels} }
func text() api.Ask                 { return api.Ask{Kind: api.AskText} }

func ran(name string, args ...int) api.Ask {
	return api.Ask{Kind: api.AskRun, Text: name, Args: args}
}

// What may be answered.
func no(err api.Errno) api.Reply    { return api.Reply{Err: err} }
func fresh(n int) api.Reply         { return api.Reply{Fresh: n} }
func says(s string) api.Reply       { return api.Reply{Text: s} }
func label(n int) api.Reply         { return api.Reply{Label: n} }
func from(at int) api.Reply         { return api.Reply{From: at} }
func wrong(l ...api.Diag) api.Reply { return api.Reply{Diags: l} }
func comes(n, steps int) api.Reply  { return api.Reply{Ran: api.Ran{N: n, Steps: steps}} }
func sent(n, steps int, l ...api.Event) api.Reply {
	return api.Reply{Ran: api.Ran{Events: l, N: n, Steps: steps}}
}

// turn is a question, and its reply, but for their number.
type turn struct {
	ask  api.Ask
	want api.Reply
}

// play holds what is answered against turns, under numbers of all sizes.
func play(t *testing.T, l ...turn) {
	t.Helper()
	ids := []int{7, 7, 0, -3, math.MaxInt, math.MinInt, 40}
	var asks []api.Ask
	for i, c := range l {
		c.ask.ID = ids[i%len(ids)]
		asks = append(asks, c.ask)
	}
	got, err := Play(asks)
	if err != api.OK || len(got) != len(l) {
		t.Fatalf("of %d questions come %d replies, %d", len(l), len(got), err)
	}
	for i, c := range l {
		c.want.ID = asks[i].ID
		if !same(got[i:i+1], []api.Reply{c.want}) {
			t.Errorf("question %d, %s, is answered\n%s, not\n%s", i, short(asks[i]), short(got[i]), short(c.want))
		}
	}
}

func noKinds() []int {
	return []int{0, -1, 10, 11, 99, 256 + api.AskOpen, -api.AskText, math.MaxInt, math.MinInt}
}

func TestNoQuestions(t *testing.T) {
	for _, l := range [][]api.Ask{nil, {}} {
		if got, err := Play(l); len(got) != 0 || err != api.OK {
			t.Errorf("of none come %v, %d", got, err)
		}
	}
}

func TestManyQuestions(t *testing.T) {
	for _, c := range []struct {
		n   int
		err api.Errno
	}{{1, api.OK}, {39, api.OK}, {40, api.OK}, {41, api.ErrMany}, {42, api.ErrMany}, {100000, api.ErrMany}} {
		for _, kind := range []int{api.AskOpen, api.AskText, 0} {
			l := make([]api.Ask, c.n)
			for i := range l {
				l[i] = api.Ask{ID: i, Kind: kind}
			}
			got, err := Play(l)
			if err != c.err || err == api.OK && len(got) != c.n || err != api.OK && len(got) != 0 {
				t.Errorf("of %d questions of kind %d come %d replies, %d", c.n, kind, len(got), err)
			}
		}
	}
}

func TestNoSuchKind(t *testing.T) {
	for _, kind := range noKinds() {
		a := api.Ask{Kind: kind, From: 3, To: 3, Text: "chan c: {};", Args: []int{1}}
		// Without a text it is no kind either, and it makes none.
		play(t, turn{a, no(api.ErrKind)}, turn{text(), no(api.ErrNone)}, turn{open("x"), fresh(1)}, turn{a, no(api.ErrKind)}, turn{text(), says("x")})
		a.Text, a.Args = strings.Repeat("x", api.MaxText+1), make([]int, api.MaxParams+1)
		play(t, turn{a, no(api.ErrKind)})
	}
}

func TestNoText(t *testing.T) {
	for kind := api.AskOpen + 1; kind <= api.AskText; kind++ {
		for _, a := range []api.Ask{{}, {Text: "x"}, {From: 5, To: 3, Text: "f", Args: []int{1}}, {From: -1, To: math.MinInt, Text: strings.Repeat("x", 5000)}} {
			a.Kind = kind
			play(t, turn{a, no(api.ErrNone)}, turn{a, no(api.ErrNone)}, turn{text(), no(api.ErrNone)})
			// What can't be opened is no text.
			play(t, turn{open(strings.Repeat("x", 4001)), no(api.ErrMuch)}, turn{a, no(api.ErrNone)})
			play(t, turn{open(strings.Repeat("chan\n", 31)), no(api.ErrMany)}, turn{a, no(api.ErrNone)})
		}
	}
}

// An empty text is one.
func TestEmptyText(t *testing.T) {
	for _, s := range []string{"", " ", "\n\t# fn f(): {} { }"} {
		n := len(s)
		play(t,
			turn{open(s), fresh(0)}, turn{text(), says(s)}, turn{diags(), wrong()}, turn{labels(), says("")},
			turn{hover(0), no(api.ErrNone)}, turn{def(0), no(api.ErrNone)}, turn{call(0, "x"), no(api.ErrNone)}, turn{call(n, ""), no(api.ErrNone)},
			turn{ran("f"), no(api.ErrNone)}, turn{ran(""), no(api.ErrNone)},
			turn{edit(0, n+1, ""), no(api.ErrRange)}, turn{edit(0, n, "chan c: {};"), fresh(1)}, turn{text(), says("chan c: {};")},
			turn{edit(0, 11, ""), fresh(0)}, turn{text(), says("")}, turn{diags(), wrong()},
			turn{edit(0, 0, ""), fresh(0)}, turn{text(), says("")},
		)
	}
}

// three has three items, with nothing wrong.
const three = "# x\nchan c: {a};\nfn f(x: {a}): {a} sends c { let y = x; if y { send c x; } return y; }\nfn g(): {} { return 5; }\n"

func TestOpen(t *testing.T) {
	other := "fn g(): {} { return 5; }\nchan d: {};\n"
	play(t,
		turn{open(three), fresh(3)}, turn{text(), says(three)}, turn{diags(), wrong()},
		// Opened anew nothing is new of it.
		turn{open(three), fresh(0)}, turn{text(), says(three)},
		// Of another text just that is new which did not stand in the one ahead.
		turn{open(other), fresh(1)}, turn{text(), says(other)},
		turn{open(""), fresh(0)}, turn{text(), says("")},
		turn{open(three), fresh(3)},
	)
	// At first all are read, also those that are alike.
	twice := strings.Repeat("chan c: {};\n", 5)
	play(t, turn{open(twice), fresh(5)}, turn{open(twice), fresh(0)}, turn{open("x"), fresh(1)}, turn{open(twice), fresh(5)})
	// A text may be whatever it is.
	for _, s := range []string{"?", "\x00\xff", "fn", "fn fn\nfn", "ä", "chan c: {};\r\n"} {
		play(t, turn{open(s), fresh(1 + strings.Count(s, "\nfn"))}, turn{text(), says(s)})
	}
}

func TestOpenLimits(t *testing.T) {
	much := strings.Repeat(" ", api.MaxText-1) + "x"
	many := strings.Repeat("chan c: {};\n", api.MaxItems)
	play(t,
		turn{open(much), fresh(1)}, turn{text(), says(much)}, turn{open(many), fresh(30)}, turn{text(), says(many)},
		// What is refused leaves the text, and what was read of it.
		turn{open(much + "x"), no(api.ErrMuch)}, turn{text(), says(many)},
		turn{open(many + "chan c: {};\n"), no(api.ErrMany)}, turn{text(), says(many)},
		turn{open("x\n" + many), no(api.ErrMany)}, turn{open(many + "x\nfn"), no(api.ErrMany)},
		turn{open(strings.Repeat("chan\n", 5000)), no(api.ErrMuch)},
		turn{text(), says(many)}, turn{open(many), fresh(0)}, turn{edit(0, 0, "x\n"), no(api.ErrMany)}, turn{text(), says(many)},
		turn{open(strings.Repeat(" ", api.MaxText)), fresh(0)}, turn{open(strings.Repeat(" ", api.MaxText+1)), no(api.ErrMuch)},
	)
}

func TestEdit(t *testing.T) {
	at := strings.Index(three, "5")
	play(t,
		turn{open(three), fresh(3)},
		// The document's own: edited in one item.
		turn{edit(at, at+1, "6"), fresh(1)}, turn{ran("g"), comes(6, 2)},
		turn{text(), says(strings.Replace(three, "5", "6", 1))},
		// Ahead of all items, and behind them; the last one has what stands behind it.
		turn{edit(0, 3, ""), fresh(0)}, turn{edit(0, 0, "# what is moved is not new"), fresh(0)}, turn{edit(0, 26, "# x"), fresh(0)},
		turn{edit(len(three), len(three), "chan d: {};"), fresh(1)},
		turn{edit(len(three), len(three)+11, " # y"), fresh(1)}, turn{edit(len(three), len(three)+4, ""), fresh(1)},
		turn{edit(at, at+1, "5"), fresh(1)}, turn{text(), says(three)},
		// Nothing is new, or what it was.
		turn{edit(0, 0, ""), fresh(0)}, turn{edit(len(three), len(three), ""), fresh(0)}, turn{edit(at, at+1, "5"), fresh(0)},
		turn{edit(0, len(three), three), fresh(0)}, turn{edit(0, 0, three), fresh(1)}, turn{edit(0, len(three), ""), fresh(0)}, turn{text(), says(three)},
		// Over several items, and all of them.
		turn{edit(4, 10, "chan d"), fresh(1)}, turn{edit(4, at+1, "fn h(): {} { return 7"), fresh(1)}, turn{ran("h"), comes(7, 2)},
		turn{edit(0, len("# x\nfn h(): {} { return 7; }\n"), "fn f"), fresh(1)}, turn{text(), says("fn f")},
	)
}

func TestEditInTwo(t *testing.T) {
	s := "chan c: {};\nfn f(): {} { 1 }\n"
	play(t,
		turn{open(s), fresh(2)},
		// One item comes to be two, and two one.
		turn{edit(24, 24, "\n"), fresh(1)},
		turn{edit(24, 25, "\nfn"), fresh(2)}, turn{edit(11, 12, " "), fresh(1)}, turn{edit(11, 12, "\n"), fresh(2)},
		turn{edit(24, 27, ""), fresh(1)}, turn{text(), says(s)},
	)
}

func TestEditRefused(t *testing.T) {
	n := len(three)
	l := []turn{{open(three), fresh(3)}}
	for _, c := range [][2]int{{-1, 0}, {0, -1}, {-1, -1}, {1, 0}, {n, n + 1}, {n + 1, n + 1}, {n + 1, n}, {5, 3}, {math.MinInt, math.MaxInt}, {0, math.MaxInt}, {math.MaxInt, math.MinInt}, {math.MinInt, 0}, {math.MinInt, math.MinInt}, {math.MaxInt, math.MaxInt}} {
		l = append(l, turn{edit(c[0], c[1], ""), no(api.ErrRange)})
	}
	l = append(l,
		turn{edit(1, 0, strings.Repeat("x", 4001)), no(api.ErrRange)},
		turn{edit(0, 0, strings.Repeat(" ", api.MaxText-n+1)), no(api.ErrMuch)},
		turn{edit(0, n, strings.Repeat("x", 4001)), no(api.ErrMuch)},
		turn{edit(0, 0, strings.Repeat("chan\n", 28)), no(api.ErrMany)},
		turn{edit(n, n, strings.Repeat("\nfn", 28)), no(api.ErrMany)},
		turn{text(), says(three)}, turn{diags(), wrong()}, turn{ran("g"), comes(5, 2)}, turn{hover(strings.Index(three, "5")), label(0)},
		// All that was read is known yet.
		turn{open(three), fresh(0)},
		// Those that are alike are read anew one by one, and so is the one that ends otherwise.
		turn{edit(n, n, strings.Repeat("\nfn", 27)), fresh(28)},
		turn{open(three), fresh(1)},
		turn{edit(0, 0, strings.Repeat(" ", api.MaxText-n)), fresh(0)},
		turn{edit(0, 0, "x"), no(api.ErrMuch)}, turn{text(), says(strings.Repeat(" ", api.MaxText-n) + three)},
	)
	play(t, l...)
}

func TestRename(t *testing.T) {
	at := func(s string) int { return strings.Index(three, s) }
	play(t,
		turn{open(three), fresh(3)},
		// Just what has the name is read anew.
		turn{call(at("c: {a}"), "d"), fresh(2)}, turn{text(), says(strings.NewReplacer("chan c", "chan d", "sends c", "sends d", "send c", "send d").Replace(three))},
		turn{diags(), wrong()},
		turn{call(at("c x;"), "c"), fresh(2)}, turn{text(), says(three)},
		turn{call(at("y {"), "zed"), fresh(1)}, turn{text(), says(strings.ReplaceAll(three, "y", "zed"))}, turn{call(at("y ="), "y"), fresh(1)},
		turn{call(at("g("), "h"), fresh(1)}, turn{ran("h"), comes(5, 2)}, turn{ran("g"), no(api.ErrNone)}, turn{call(at("g("), "g"), fresh(1)},
		// What it is called already.
		turn{call(at("g("), "g"), fresh(0)}, turn{text(), says(three)},
	)
}

func TestRenameRefused(t *testing.T) {
	at := func(s string) int { return strings.Index(three, s) }
	l := []turn{{open(three), fresh(3)}}
	for _, c := range []struct {
		at   int
		name string
		want api.Errno
	}{
		{0, "zed", api.ErrNone}, {at("chan"), "zed", api.ErrNone}, {at("5"), "zed", api.ErrNone}, {-1, "zed", api.ErrNone}, {len(three), "zed", api.ErrNone},
		{math.MinInt, "zed", api.ErrNone}, {math.MaxInt, "zed", api.ErrNone}, {0, "fn", api.ErrNone},
		{at("y ="), "x", api.ErrName}, {at("y ="), "", api.ErrName}, {at("y ="), "let", api.ErrName}, {at("y ="), "1", api.ErrName}, {at("y ="), "z d", api.ErrName},
		{at("y ="), "abcdefghijklm", api.ErrName}, {at("g("), "f", api.ErrName}, {at("x: {a}"), "y", api.ErrName}, {at("x: {a}"), strings.Repeat("x", 5000), api.ErrName},
	} {
		l = append(l, turn{call(c.at, c.name), no(c.want)})
	}
	l = append(l, turn{text(), says(three)}, turn{diags(), wrong()}, turn{open(three), fresh(0)},
		turn{edit(0, 0, strings.Repeat(" ", api.MaxText-len(three)-1)), fresh(0)},
		// Two bytes more would be too much.
		turn{call(api.MaxText-len(three)-1+at("g("), "zed"), no(api.ErrMuch)}, turn{call(api.MaxText-len(three)-1+at("g("), "ze"), fresh(1)})
	play(t, l...)
	// Of what has something wrong nothing is called otherwise.
	for _, s := range []string{"fn f(): {} { y; }", "fn f(): {} { 1 }", "chan c: {};\nfn f(): {} { send c 1; }", "fn f(x: {a}): {} { return x; }", "fn f(): {} { }\n?\nfn g(): {} { }"} {
		play(t, turn{open(s), fresh(1 + strings.Count(s, "\nfn"))}, turn{call(3, "h"), no(api.ErrBad)}, turn{call(0, "fn"), no(api.ErrBad)}, turn{text(), says(s)})
	}
}

func TestDiags(t *testing.T) {
	d := func(from, to int, err api.Errno, name string) api.Diag {
		return api.Diag{From: from, To: to, Err: err, Name: name}
	}
	for _, c := range []struct {
		s     string
		items int
		want  []api.Diag
	}{
		{three, 3, nil},
		{"?", 1, []api.Diag{d(0, 1, api.ErrForm, "?")}},
		{" # x\n ?\nfn f(): {} { 1 }", 2, []api.Diag{d(6, 7, api.ErrForm, "?"), d(21, 22, api.ErrForm, "1")}},
		{"chan c: {};\nchan c: {};", 2, []api.Diag{d(17, 18, api.ErrName, "c")}},
		{"\nfn f(): {} { y; }", 1, []api.Diag{d(14, 15, api.ErrNone, "y")}},
		// Of each layer, in turn: read, named, sent, told.
		{"\nchan c: {};\nfn f(x: {a}): {} { send c x; z; let ; }", 2, []api.Diag{d(49, 50, api.ErrForm, ";"), d(49, 50, api.ErrForm, ";"), d(49, 50, api.ErrForm, ";"), d(42, 43, api.ErrNone, "z"), d(13, 13, api.ErrSend, "c"), d(32, 41, api.ErrFlow, "c")}},
		// Item by item.
		{"fn f(): {} { z; }\nfn g(): {} { ? }\nfn h(): {} { z; }", 3, []api.Diag{d(13, 14, api.ErrNone, "z"), d(31, 32, api.ErrForm, "?"), d(48, 49, api.ErrNone, "z")}},
	} {
		play(t, turn{open(c.s), fresh(c.items)}, turn{diags(), wrong(c.want...)}, turn{diags(), wrong(c.want...)}, turn{text(), says(c.s)})
	}
}

// Each way of telling a secret is found, and so it is if it came to be by an edit.
func TestWaysOfTelling(t *testing.T) {
	const head = "chan p: {};\nfn g(x: {}): {} { }\nfn n(): {} sends p { }\n"
	for _, c := range []struct{ body, told, name string }{
		{"let y: {} = x;", "let y: {} = x;", "y"},
		{"let y = 1; y = x;", "y = x;", "y"},
		{"send p x;", "send p x;", "p"},
		{"return x;", "return x;", ""},
		{"g(x);", "x", "x"},
		{"g(1 + x);", "1 + x", "x"},
		{"if x { send p 1; }", "send p 1;", "p"},
		{"if x { } else { return 1; }", "return 1;", ""},
		{"while x { send p 1; }", "send p 1;", "p"},
		{"while x { n(); }", "n()", "n"},
		{"if x { g(1); }", "1", "x"},
		{"let y = 0; if x { y = 1; }", "y = 1;", "y"},
		{"while x < n() { }", "n()", "n"},
	} {
		ahead := head + "fn f(x: {a}): {} sends p { "
		s := ahead + c.body + " }"
		at := len(ahead) + strings.LastIndex(c.body, c.told)
		want := wrong(api.Diag{From: at, To: at + len(c.told), Err: api.ErrFlow, Name: c.name})
		play(t, turn{open(s), fresh(4)}, turn{diags(), want}, turn{ran("f", 1), no(api.ErrBad)}, turn{call(5, "q"), no(api.ErrBad)})
		quiet := strings.Replace(s, "x: {a}", "x: {}", 1)
		edge := strings.Index(s, "{a}")
		play(t, turn{open(quiet), fresh(4)}, turn{diags(), wrong()}, turn{edit(edge+1, edge+1, "a"), fresh(1)}, turn{diags(), want}, turn{text(), says(s)},
			turn{edit(edge, edge+3, "{}"), fresh(1)}, turn{diags(), wrong()})
	}
}
