package serve

import (
	"reflect"
	"strings"
	"testing"

	"undertone/api"
)

// wide copies a list, with room behind it in which something stands.
func wide[T any](l []T, more ...T) []T { return append(append([]T{}, l...), more...)[:len(l)] }

func wideAsks(l []api.Ask) []api.Ask {
	out := wide(l, open("behind"), text(), api.Ask{})
	for i := range out {
		out[i].Args = wide(out[i].Args, 1, 2, 3)
	}
	return out
}

// whole has a list with the room behind it.
func whole[T any](l []T) []T { return l[:cap(l)] }

// kept copies all that questions have, with the room behind it.
func kept(l []api.Ask) []api.Ask {
	out := append([]api.Ask(nil), whole(l)...)
	for i := range out {
		out[i].Args = append([]int(nil), whole(out[i].Args)...)
	}
	return out
}

// unlike has the same questions, their lists without entries nil, if they were not, or not nil.
func unlike(l []api.Ask) []api.Ask {
	out := append([]api.Ask(nil), l...)
	for i := range out {
		if len(out[i].Args) == 0 && out[i].Args == nil {
			out[i].Args = []int{}
		} else if len(out[i].Args) == 0 {
			out[i].Args = nil
		}
	}
	return out
}

func TestQuestionsAreOnlyRead(t *testing.T) {
	made(600, api.MaxAsks, func(m *maker) {
		g := wideAsks(m.asks)
		was := kept(g)
		for range 2 {
			matches(t, g, m.wants)
		}
		if !reflect.DeepEqual(kept(g), was) {
			t.Fatalf("who asks %s changes it, or room behind it", short(m.asks))
		}
		matches(t, unlike(g), m.wants)
		matches(t, unlike(unlike(g)), m.wants)
	})
}

// Room behind questions is none of them, also where they are as many as there may be, or one more.
func TestRoomBehindMany(t *testing.T) {
	room := make([]api.Ask, api.MaxAsks+5)
	for i := range room {
		room[i] = open("x")
	}
	for n := range room {
		got, err := Play(room[:n])
		if n <= api.MaxAsks && (len(got) != n || err != api.OK) || n > api.MaxAsks && (len(got) != 0 || err != api.ErrMany) {
			t.Errorf("of %d questions, with room behind, come %d replies, %d", n, len(got), err)
		}
	}
}

// wipe changes a list, with the room behind it.
func wipe[T any](l []T) {
	var none T
	for i := range whole(l) {
		whole(l)[i] = none
	}
}

// What is answered is the caller's, each list of it by itself, with the room behind it; who changes questions changes nothing of it.
func TestAnswersAreNew(t *testing.T) {
	lists := 0
	made(600, api.MaxAsks, func(m *maker) {
		g := wideAsks(m.asks)
		was := kept(g)
		got := answer(t, g...)
		wipe(got[len(got):])
		for i, r := range got {
			wipe(whole(r.Diags)[len(r.Diags):])
			wipe(whole(r.Ran.Events)[len(r.Ran.Events):])
			if i%2 == 0 {
				wipe(r.Diags)
				wipe(r.Ran.Events)
				got[i].Diags, got[i].Ran.Events = m.wants[i].Diags, m.wants[i].Ran.Events
			}
			lists += min(1, len(r.Diags)) + min(1, len(r.Ran.Events))
		}
		if !same(got, m.wants) {
			t.Fatalf("of %s comes %s, in which lists lie in others", short(m.asks), short(got))
		}
		wipe(got)
		if !reflect.DeepEqual(kept(g), was) {
			t.Fatalf("who changes what comes of %s changes it", short(m.asks))
		}
		again := answer(t, g...)
		for _, a := range g {
			wipe(a.Args)
		}
		wipe(g)
		if !same(again, m.wants) {
			t.Fatalf("who changes %s changes what came of it", short(m.asks))
		}
	})
	if lists < 500 {
		t.Errorf("with %d lists the questions are too poor", lists)
	}
}

// With as much as there may be, over and over, it comes to an end.
func TestGreatSessions(t *testing.T) {
	blocks := "fn f(x: {}): {} { " + strings.Repeat("let a=x; while x { a=a; ", api.MaxNest-2) + strings.Repeat("f(f(x)*f(x));", 30)
	blocks = blocks[:min(len(blocks), api.MaxText-api.MaxNest)] + strings.Repeat("}", api.MaxNest-1)
	lets := "fn f(x: {a}): {} { let a0 = 0; "
	for i := range api.MaxStmts - 2 {
		k := string(rune('a'+i/10)) + string(rune('0'+i%10))
		lets += "let " + k + "x = 0; "
	}
	deep := "fn f(x: {}): {} { return " + strings.Repeat("(", api.MaxNest-2) + "x" + strings.Repeat(")", api.MaxNest-2) + strings.Repeat(" + x * f(x)", 300) + "; }"
	many := "fn f(): {} { while 1 { } }\n" + strings.Repeat("fn g(): {} { x; y; z; f(1); }\n", api.MaxItems-1)
	for _, s := range []string{blocks, lets + "}", deep, many, strings.Repeat("?", api.MaxText), strings.Repeat("{", api.MaxText), strings.Repeat("fn f(", 800)} {
		s = s[:min(len(s), api.MaxText)]
		for kind := api.AskOpen; kind <= api.AskText; kind++ {
			l := []api.Ask{open(s)}
			for i := range api.MaxAsks - 1 {
				l = append(l, api.Ask{ID: i, Kind: kind, From: 3, To: 3 + i%2, Text: "f", Args: []int{1}[:min(1, strings.Count(s, "x: {"))]})
			}
			if got := answer(t, l...); got[0].Err != api.OK {
				t.Errorf("%.60q can't be opened: %d", s, got[0].Err)
			}
		}
	}
}

func TestGreatQuestions(t *testing.T) {
	great, args := strings.Repeat("f", 1<<24), make([]int, 1<<22)
	for kind := range api.AskText + 2 {
		a := api.Ask{Kind: kind, Text: great, Args: args}
		l := answer(t, a, open("fn f(): {} { }"), a, text())
		if l[0].Err == api.OK || l[3].Text != "fn f(): {} { }" {
			t.Errorf("a great question of kind %d is answered %s", kind, short(l))
		}
	}
	if l, err := Play(make([]api.Ask, 1<<20)); len(l) != 0 || err != api.ErrMany {
		t.Errorf("of many questions come %d replies, %d", len(l), err)
	}
}
