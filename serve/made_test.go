package serve

import (
	"math"
	"math/rand"
	"strings"
	"testing"

	"undertone/api"
	"undertone/lex"
)

// maker asks questions that go with the text that there is, mostly, and knows what is to be answered.
type maker struct {
	*rand.Rand
	h     history
	asks  []api.Ask
	wants []api.Reply
}

func (m *maker) pick(l ...string) string { return l[m.Intn(len(l))] }

func (m *maker) now() string {
	if len(m.h) == 0 {
		return ""
	}
	return m.h[len(m.h)-1]
}

func (m *maker) item() string {
	return m.pick(
		"chan c: {};\n", "chan c: {};\n", "chan s: {a};\n", "chan d: {a,b};",
		"fn f(x: {}): {} { return x * x; }\n",
		"fn g(x: {a}, y: {b}): {a,b} sends d { let z = x; z = y; send d z; return x + z; }\n",
		"fn h(): {} sends c { let i = 0; while i < 5 { send c f(i); i = i + 1; } }\n\n",
		"fn leak(x: {a}): {} sends c {\n  if x { send c 1; } # not so\n  return x;\n}\n",
		"fn loop(): {} { while 1 { } }\n", "fn deep(): {} { deep(); }\n",
		"fn none(): {} { return x; send c h(1); }\n", "fn open(x: {c}): {} { let y = 1; if x { let q = y; y = q; } }\n",
		"fn bad(): {} { return 1 + ; }\n", "? x f(1)\n", "chan\n",
	)
}

// right has items with which nothing is wrong, beside one another.
func (m *maker) right() string {
	l := strings.SplitAfter("chan c: {};\n\tfn f(x: {}): {} sends c { let y = x; y = f(y); send c y; return y; }\n\tchan s: {a};\n\tfn g(x: {a}): {a} sends s { let y = x; if y { send s h(); } return y; }\n\tfn h(): {} { let i = 0; while i < 3 { i = i + 1; } return i; } # h\n\tfn loop(): {} { while 1 { } }\n\tfn deep(): {} { deep(); }\n", "\t")
	m.Shuffle(len(l), func(i, k int) { l[i], l[k] = l[k], l[i] })
	return strings.ReplaceAll(strings.Join(l, ""), "\t", "")
}

func (m *maker) text() string {
	s := m.pick("", "", "# x\n", " \n")
	switch m.Intn(10) {
	case 0:
		return s
	case 1:
		return s + strings.Repeat(m.item(), 26+m.Intn(8))
	case 2, 3:
		s += m.right()
		return strings.Repeat(" ", max(0, api.MaxText-len(s)+1-m.Intn(6))) + s
	case 4, 5, 6, 7:
		return s + m.right()
	}
	for range m.Intn(8) {
		s += m.item()
	}
	return s
}

// place is that of a byte of the text, most often of one in a word.
func (m *maker) place() int {
	s := m.now()
	l := lex.Tokens(s)
	switch {
	case m.Intn(20) == 0:
		return []int{-1, -2, len(s), len(s) + 1, math.MaxInt, math.MinInt}[m.Intn(6)]
	case m.Intn(5) == 0 || len(l) == 0:
		return m.Intn(len(s) + 1)
	}
	k := l[m.Intn(len(l))]
	for range 3 {
		if lex.Name(k.Text) {
			break
		}
		k = l[m.Intn(len(l))]
	}
	return k.At + m.Intn(len(k.Text))
}

func (m *maker) edit() api.Ask {
	s := m.now()
	from := m.place()
	a := edit(from, from+m.Intn(3), m.pick("", "x", " ", "\n", "1", "y", ";", "{", "}", "\nfn ", "\n", "# ", m.item(), m.item()))
	switch m.Intn(12) {
	case 0:
		a.To = m.place()
	case 1: // An item of its own, at the end.
		a.From, a.To, a.Text = len(s), len(s), "\n"+m.item()
	case 2:
		a.Text = strings.Repeat(m.pick("\nfn", " "), m.Intn(40))
	case 3:
		a.Text = strings.Repeat("x", 3900+m.Intn(200))
	}
	return a
}

func (m *maker) ask() api.Ask {
	switch m.Intn(24) {
	case 0, 1:
		return open(m.text())
	case 2:
		return api.Ask{Kind: []int{0, -1, 10, 99, math.MaxInt, math.MinInt}[m.Intn(6)], Text: m.text()}
	case 3, 4, 5:
		return m.edit()
	case 6, 7, 8:
		return diags()
	case 9, 10, 11:
		return hover(m.place())
	case 12, 13:
		return def(m.place())
	case 14, 15, 16:
		return call(m.place(), m.pick("zed", "x", "y", "c", "q", "h", "f", "fn", "", "abcdefghijkl"))
	case 17, 18:
		return labels()
	case 19, 20, 21:
		return ran(m.pick("f", "g", "h", "h", "loop", "deep", "none", "c", ""), []int{m.Intn(9), m.Intn(9) - 4, 1}[:min(3, m.Intn(9)/2)]...)
	}
	return text()
}

// session asks up to so many questions.
func (m *maker) session(most int) {
	for i := range m.Intn(most + 1) {
		a := m.ask()
		if i == 0 && m.Intn(8) > 0 {
			a = open(m.text())
		}
		a.ID = m.Intn(50) - 5
		r := m.h.reply(a)
		r.ID = a.ID
		m.asks, m.wants = append(m.asks, a), append(m.wants, r)
	}
}

func made(n, most int, use func(m *maker)) {
	for seed := range n {
		m := &maker{Rand: rand.New(rand.NewSource(int64(seed)))}
		m.session(most)
		use(m)
	}
}

// matches holds what is answered against what is to be.
func matches(t *testing.T, asks []api.Ask, wants []api.Reply) {
	t.Helper()
	got, err := Play(asks)
	if err != api.OK || len(got) != len(wants) {
		t.Fatalf("of %d questions come %d replies, %d", len(asks), len(got), err)
	}
	for i := range got {
		if !same(got[i:i+1], wants[i:i+1]) {
			t.Fatalf("question %d of %s, %s, is answered\n%s, not\n%s", i, short(asks[:i]), short(asks[i]), short(got[i]), short(wants[i]))
		}
	}
}

// What is answered is what all texts tell that are read anew for each question (see anew_test.go).
func TestAgainstAnew(t *testing.T) {
	type end struct {
		kind int
		err  api.Errno
	}
	ends := map[end]int{}
	made(3000, api.MaxAsks, func(m *maker) {
		matches(t, m.asks, m.wants)
		for i, r := range m.wants {
			ends[end{m.asks[i].Kind, r.Err}]++
		}
	})
	for _, e := range []end{
		{0, api.ErrKind}, {api.AskOpen, api.OK}, {api.AskOpen, api.ErrMuch}, {api.AskOpen, api.ErrMany},
		{api.AskEdit, api.OK}, {api.AskEdit, api.ErrRange}, {api.AskEdit, api.ErrMuch}, {api.AskEdit, api.ErrMany}, {api.AskEdit, api.ErrNone},
		{api.AskDiags, api.OK}, {api.AskDiags, api.ErrNone}, {api.AskHover, api.OK}, {api.AskHover, api.ErrNone}, {api.AskDef, api.OK}, {api.AskDef, api.ErrNone},
		{api.AskRename, api.OK}, {api.AskRename, api.ErrBad}, {api.AskRename, api.ErrName}, {api.AskRename, api.ErrNone}, {api.AskRename, api.ErrMuch},
		{api.AskLabels, api.OK}, {api.AskLabels, api.ErrBad}, {api.AskLabels, api.ErrNone},
		{api.AskRun, api.OK}, {api.AskRun, api.ErrBad}, {api.AskRun, api.ErrNone}, {api.AskRun, api.ErrMany}, {api.AskRun, api.ErrFuel}, {api.AskRun, api.ErrDeep},
		{api.AskText, api.OK}, {api.AskText, api.ErrNone},
	} {
		if ends[e] < 30 {
			t.Errorf("with %d questions of kind %d that end with %d the texts are too poor", ends[e], e.kind, e.err)
		}
	}
}

// answer has the replies to l.
func answer(t *testing.T, l ...api.Ask) []api.Reply {
	t.Helper()
	got, err := Play(l)
	if err != api.OK || len(got) != len(l) {
		t.Fatalf("of %d questions come %d replies, %d", len(l), len(got), err)
	}
	return got
}

// changes tells whether a question may have the text be another one.
func changes(a api.Ask) bool {
	return a.Kind == api.AskOpen || a.Kind == api.AskEdit || a.Kind == api.AskRename
}

// tells asks what leaves the text as it is.
func (m *maker) tells(n int) []api.Ask {
	var l []api.Ask
	for range n {
		a := m.ask()
		for changes(a) {
			a = m.ask()
		}
		l = append(l, a)
	}
	return l
}

// However a text came to be, of it is told what is told if it is opened now.
func TestHoweverItCameToBe(t *testing.T) {
	made(1500, api.MaxAsks/2, func(m *maker) {
		if len(m.h) == 0 {
			return
		}
		l := m.tells(api.MaxAsks / 2)
		got := answer(t, append(m.asks, l...)...)[len(m.asks):]
		if want := answer(t, append([]api.Ask{open(m.now())}, l...)...)[1:]; !same(got, want) {
			t.Fatalf("behind %s, %s is answered\n%s, not\n%s", short(m.asks), short(l), short(got), short(want))
		}
	})
}

// What only tells, and what is refused, leaves nothing behind: without it the others are answered alike.
func TestNothingIsLeftBehind(t *testing.T) {
	left := 0
	made(1500, api.MaxAsks, func(m *maker) {
		var asks []api.Ask
		var wants []api.Reply
		for i, a := range m.asks {
			if changes(a) && m.wants[i].Err == api.OK || m.Intn(3) == 0 {
				asks, wants = append(asks, a), append(wants, m.wants[i])
			}
		}
		matches(t, asks, wants)
		left += len(m.asks) - len(asks)
	})
	if left < 5000 {
		t.Errorf("with %d left out the questions are too poor", left)
	}
}

// What is asked later changes no reply.
func TestLaterQuestions(t *testing.T) {
	made(500, api.MaxAsks, func(m *maker) {
		n := m.Intn(len(m.asks) + 1)
		matches(t, m.asks[:n], m.wants[:n])
	})
}

// A small edit is a small step: of many items just the one is read anew in which it is; where it stands does not count.
func TestSmallEdits(t *testing.T) {
	s := three + strings.Repeat("fn h(): {} { return 1; }\n", 27)
	texts, cuts := pieces(s)
	for i, at := range cuts {
		for k := range len(texts[i]) {
			got := answer(t, open(s), edit(0, 0, " "), edit(at+k+1, at+k+2, texts[i][k:k+1]+"1"), edit(0, 1, ""))
			if got[0].Fresh != 30 || got[1].Fresh != 0 || got[2].Fresh != 1 || got[3].Fresh != 0 {
				t.Fatalf("with byte %d of item %d another one %d, %d, %d, %d are read anew", k, i, got[0].Fresh, got[1].Fresh, got[2].Fresh, got[3].Fresh)
			}
		}
	}
}

// It always answers, whatever is asked.
func TestAnyQuestions(t *testing.T) {
	m := &maker{Rand: rand.New(rand.NewSource(1))}
	number := func() int {
		return []int{m.Intn(12) - 1, m.Intn(100) - 10, int(m.Uint64()), math.MaxInt, math.MinInt}[m.Intn(5)]
	}
	some := func() string {
		b := make([]byte, m.Intn(20))
		m.Read(b)
		return m.pick(string(b), m.text(), m.item(), "f", "")
	}
	for range 3000 {
		var l []api.Ask
		var h history
		var want []api.Reply
		for range m.Intn(15) {
			a := api.Ask{ID: number(), Kind: m.Intn(11), From: number(), To: number(), Text: some(), Args: make([]int, m.Intn(3))}
			r := h.reply(a)
			r.ID = a.ID
			l, want = append(l, a), append(want, r)
		}
		matches(t, l, want)
	}
}
