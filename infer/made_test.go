package infer

import (
	"math/rand"
	"reflect"
	"strings"
	"testing"

	"undertone/api"
	"undertone/flow"
	"undertone/label"
	"undertone/lex"
	"undertone/names"
	"undertone/parse"
)

// maker writes texts, in which few names are those of many things, and locals are set time and again.
type maker struct {
	*rand.Rand
	tags int // of how many tags labels are made
	deep int
}

func (m *maker) pick(l ...string) string { return l[m.Intn(len(l))] }

func (m *maker) local() string { return m.pick("x", "y", "z", "p", "q", "r", "s") }

func (m *maker) fn() string { return m.pick("f", "g", "h", "x") }

func (m *maker) channel() string { return m.pick("c", "d", "f") }

func (m *maker) label() string { return label.Print(m.Intn(1<<m.tags) & m.Intn(1<<m.tags)) }

// some has up to n parts, with `,` between.
func (m *maker) some(n int, part func() string) string {
	var l []string
	for range m.Intn(n + 1) {
		l = append(l, part())
	}
	return strings.Join(l, ", ")
}

func (m *maker) expr() string {
	m.deep++
	defer func() { m.deep-- }()
	switch k := m.Intn(10); {
	case k == 0 && m.deep < 6:
		return m.fn() + "(" + m.some(3, m.expr) + ")"
	case k == 1 && m.deep < 6:
		return m.expr() + m.pick("=", "<", "+", " - ", "*") + m.pick(m.expr(), "("+m.expr()+")")
	case k < 5:
		return m.pick("0", "1", "42")
	}
	return m.local()
}

func (m *maker) block() string {
	m.deep++
	defer func() { m.deep-- }()
	s := "{ "
	for m.deep < 5 && m.Intn(6) > 0 {
		s += m.stmt() + m.pick("", " ", "\n  ")
	}
	return s + "}"
}

func (m *maker) stmt() string {
	switch m.Intn(13) {
	case 0, 1, 2:
		return "let " + m.local() + " = " + m.expr() + ";"
	case 3:
		return "let " + m.local() + ": " + m.label() + " = " + m.expr() + ";"
	case 4, 5, 6, 7:
		return m.local() + " = " + m.expr() + ";"
	case 8:
		return "send " + m.channel() + " " + m.expr() + ";"
	case 9:
		return "if " + m.expr() + " " + m.block() + m.pick("", " else "+m.block())
	case 10:
		return "while " + m.expr() + " " + m.block()
	case 11:
		return "return " + m.expr() + ";"
	}
	return m.local() + ";"
}

func (m *maker) item() string {
	if m.Intn(4) == 0 {
		return "chan " + m.channel() + ": " + m.label() + ";"
	}
	s := "fn " + m.fn() + "(" + m.some(4, func() string { return m.local() + ": " + m.label() }) + "): " + m.label()
	if m.Intn(3) == 0 {
		s += " sends " + m.channel()
	}
	return s + " " + m.block()
}

func (m *maker) text() string {
	s := m.pick("", "", "# x\n", " ")
	for range m.Intn(6) {
		s += m.item() + m.pick("\n", "\n\n", "\n# y\n", " \n ")
	}
	return s[:min(len(s), api.MaxText)]
}

// broken has a text with some tokens left out, and some put in.
func (m *maker) broken() string {
	s := m.text()
	for range 1 + m.Intn(4) {
		l := lex.Tokens(s)
		if len(l) == 0 {
			break
		}
		t := l[m.Intn(len(l))]
		s = s[:t.At] + m.pick("", "", "(", ")", "{", "}", ";", ",", "=", "+", " x ", " let ", " if ", " while ", " else ", "1", "?", " abcdefghijklm ", "\nfn ") + s[t.At+m.Intn(2)*len(t.Text):]
	}
	return s[:min(len(s), api.MaxText)]
}

// texts hands on many texts, of which every other one is broken.
func texts(t *testing.T, n, tags int, use func(s string, f api.File)) {
	t.Helper()
	for seed := range n {
		m := &maker{Rand: rand.New(rand.NewSource(int64(seed))), tags: tags}
		s := m.text()
		if seed%2 == 1 {
			s = m.broken()
		}
		use(s, read(t, s))
	}
}

// own copies a file with all that it has.
func own(f api.File) api.File {
	var out api.File
	for _, it := range f.Items {
		out.Items = append(out.Items, parse.Own(it))
	}
	return out
}

// opened has a copy of f, and, item by item, those of its lets that are open in what f was read as.
func opened(f, was api.File) (api.File, [][]*api.Stmt) {
	g := own(f)
	out := make([][]*api.Stmt, len(g.Items))
	for i := range g.Items {
		var open []bool
		eachLet(was.Items[i].Body, func(st *api.Stmt) { open = append(open, st.Open) })
		k := 0
		eachLet(g.Items[i].Body, func(st *api.Stmt) {
			if open[k] {
				out[i] = append(out[i], st)
			}
			k++
		})
	}
	return g, out
}

// asked has, by the byte of the item where it begins, each statement that makes or sets one of these lets.
func asked(f api.File, i int, open []*api.Stmt) map[int]int {
	out, made := map[int]int{}, map[int]int{}
	for _, st := range open {
		out[st.From]++
		if st.Name != "" {
			made[f.Items[i].At+st.At]++
		}
	}
	meant := map[int]int{}
	for _, u := range names.Uses(f) {
		meant[u.From] = made[u.Def]
	}
	var sets func(l []api.Stmt)
	sets = func(l []api.Stmt) {
		for _, st := range l {
			if st.Kind == api.StSet && st.Name != "" && meant[f.Items[i].At+st.At] > 0 {
				out[st.From]++
			}
			sets(st.Then)
			sets(st.Else)
		}
	}
	sets(f.Items[i].Body)
	return out
}

// fits asks chapter 6 whether all that flows to these lets may.
func fits(f api.File, i int, asked map[int]int) bool {
	for _, d := range flow.Diags(f, i) {
		if asked[d.From] > 0 {
			return false
		}
	}
	return true
}

// counts up: the labels of these lets become the next ones, of all that may be; false behind the last ones.
func counts(open []*api.Stmt, many int) bool {
	for _, st := range open {
		st.Label++
		if st.Label < many {
			return true
		}
		st.Label = 0
	}
	return false
}

// labelsOf has of each of these lets the label that it has.
func labelsOf(open []*api.Stmt) []int {
	var out []int
	for _, st := range open {
		out = append(out, st.Label)
	}
	return out
}

// misses tells whether the labels that these lets have are without some tag of others.
func misses(open []*api.Stmt, others []int) bool {
	for k, st := range open {
		if others[k]&^st.Label != 0 {
			return true
		}
	}
	return false
}

// What is found fits, and all else that fits has all of its tags: all labels that might be are tried.
func TestLeastOfAll(t *testing.T) {
	tried, secret := 0, 0
	for _, tags := range []int{1, 2} {
		texts(t, 2500, tags, func(s string, f api.File) {
			g, all := opened(Labels(f), f)
			for i, open := range all {
				if len(open) == 0 || len(open)*tags > 7 {
					continue
				}
				where, found := asked(g, i, open), labelsOf(open)
				if !fits(g, i, where) {
					t.Fatalf("of item %d of %q what is found doesn't fit", i, s)
				}
				for k, st := range open {
					secret += min(found[k], 1)
					st.Label = 0
				}
				for more := true; more; more = counts(open, 1<<tags) {
					tried++
					if misses(open, found) && fits(g, i, where) {
						t.Fatalf("of item %d of %q %v fits, and not %v alone", i, s, labelsOf(open), found)
					}
				}
			}
		})
	}
	if tried < 30000 || secret < 600 {
		t.Errorf("with %d tries, and %d secrets, the texts are too poor", tried, secret)
	}
}

// What is found is what comes of tags that go from let to let (see tags_test.go), of right texts and of broken ones; and all else stays as it was.
func TestByTags(t *testing.T) {
	labels, rich := map[int]int{}, 0
	texts(t, 3000, 3, func(s string, f api.File) {
		want := own(f)
		for i := range want.Items {
			var all []*api.Stmt
			eachLet(want.Items[i].Body, func(st *api.Stmt) { all = append(all, st) })
			for k, n := range byTags(f, i, all) {
				if all[k].Open {
					labels[n]++
				}
				all[k].Open, all[k].Label = false, n
			}
			if len(all) > 8 {
				rich++
			}
		}
		if got := Labels(f); !reflect.DeepEqual(got, want) {
			t.Fatalf("of %q comes\n%s, not\n%s", s, found(got), found(want))
		}
	})
	for n := range 8 {
		if labels[n] < 100 {
			t.Errorf("of label %d are %d, and the texts are too poor", n, labels[n])
		}
	}
	if rich < 100 {
		t.Errorf("with %d that have many lets the texts are too poor", rich)
	}
}
