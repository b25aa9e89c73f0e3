package rename

import (
	"strings"

	"undertone/api"
	"undertone/lex"
)

// Here names of a right text mean what they do by its tokens alone: braces open and close what locals are made in, and what stands around a name says of what it is one.

// sorts of things that have names.
const (
	channels = iota
	functions
	locals
)

// meanings has, by the number of a token at which a name stands, the number of that at which it is made.
type meanings struct {
	l     []string
	means map[int]int
	top   [2]map[string]int
	in    []map[string]int // locals, block by block
	later []int            // tokens that mean channels and functions, which may be made behind
	let   int              // the token that is made at the next `;`, or -1
	taken bool             // something is made that is made already
}

// means has what the tokens of a right text mean, and whether each of their names is made once.
func means(l []string) (map[int]int, bool) {
	m := &meanings{l: l, means: map[int]int{}, top: [2]map[string]int{{}, {}}, let: -1}
	for i := 0; i < len(l); i++ {
		i = m.token(i)
	}
	for _, i := range m.later {
		m.means[i] = m.top[m.sort(i)][l[i]]
	}
	return m.means, !m.taken
}

// at has a token, or none.
func (m *meanings) at(i int) string {
	if i < 0 || i >= len(m.l) {
		return ""
	}
	return m.l[i]
}

func (m *meanings) sort(i int) int {
	switch {
	case m.at(i-1) == "chan" || m.at(i-1) == "send" || m.listed(i):
		return channels
	case m.at(i+1) == "(":
		return functions
	}
	return locals
}

// listed tells whether a name stands behind `sends`.
func (m *meanings) listed(i int) bool {
	for m.at(i-1) == "," {
		i -= 2
	}
	return m.at(i-1) == "sends"
}

func (m *meanings) make(sort, i int) {
	name := m.l[i]
	m.means[i] = i
	if sort != locals {
		_, ok := m.top[sort][name]
		m.taken = m.taken || ok
		m.top[sort][name] = i
		return
	}
	if m.local(name) >= 0 {
		m.taken = true
	}
	m.in[len(m.in)-1][name] = i
}

func (m *meanings) local(name string) int {
	last := -1
	for _, block := range m.in {
		if i, ok := block[name]; ok {
			last = max(last, i)
		}
	}
	return last
}

// token goes past a token, or a label; the last one that is gone past is told.
func (m *meanings) token(i int) int {
	switch text := m.l[i]; {
	case text == "fn":
		// Parameters are made in what the body stands in.
		m.in = []map[string]int{{}}
	case text == ":":
		for m.l[i] != "}" {
			i++
		}
	case text == "{":
		m.in = append(m.in, map[string]int{})
	case text == "}":
		m.in = m.in[:len(m.in)-1]
	case text == ";" && m.let >= 0:
		m.make(locals, m.let)
		m.let = -1
	case lex.Name(text):
		m.name(i)
	}
	return i
}

func (m *meanings) name(i int) {
	sort := m.sort(i)
	switch {
	case m.at(i-1) == "let":
		m.let = i
	case m.at(i-1) == "fn" || m.at(i-1) == "chan" || sort == locals && m.at(i+1) == ":":
		m.make(sort, i)
	case sort != locals:
		m.later = append(m.later, i)
	default:
		m.means[i] = m.local(m.l[i])
	}
}

func textsOf(l []api.Token) []string {
	var out []string
	for _, tok := range l {
		out = append(out, tok.Text)
	}
	return out
}

// standing has the number of the token at byte at, or -1.
func standing(l []api.Token, at int) int {
	for i, tok := range l {
		if tok.At <= at && at < tok.At+len(tok.Text) {
			return i
		}
	}
	return -1
}

// defOf is what Def must tell of a right text.
func defOf(s string, at int) (int, bool) {
	l := lex.Tokens(s)
	by, _ := means(textsOf(l))
	i, ok := by[standing(l, at)]
	if !ok {
		return 0, false
	}
	return l[i].At, true
}

// called is what To must come to of a right text: what stands between the tokens stays as it is.
func called(s string, at int, name string) (string, api.Errno) {
	l := lex.Tokens(s)
	was := textsOf(l)
	by, _ := means(was)
	def, ok := by[standing(l, at)]
	if !ok {
		return "", api.ErrNone
	}
	if !lex.Name(name) {
		return "", api.ErrName
	}
	var b strings.Builder
	end := 0
	is := textsOf(l)
	for i, tok := range l {
		if d, ok := by[i]; ok && d == def {
			is[i] = name
		}
		b.WriteString(s[end:tok.At] + is[i])
		end = tok.At + len(tok.Text)
	}
	out := b.String() + s[end:]
	if len(out) > api.MaxText {
		return "", api.ErrMuch
	}
	now, once := means(is)
	if !once || len(now) != len(by) {
		return "", api.ErrName
	}
	for i, d := range by {
		if now[i] != d {
			return "", api.ErrName
		}
	}
	return out, api.OK
}
