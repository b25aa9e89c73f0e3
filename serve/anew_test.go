package serve

import (
	"slices"
	"strings"

	"undertone/api"
	"undertone/flow"
	"undertone/infer"
	"undertone/lex"
	"undertone/parse"
	"undertone/rename"
	"undertone/run"
	"undertone/write"
)

// history has all texts that there were, the present one last. It keeps nothing of what was read of them: each question is answered as if it were the first one.
type history []string

// pieces cuts a text by its tokens: its items' texts, and where they begin.
func pieces(s string) (texts []string, cuts []int) {
	for i, k := range lex.Tokens(s) {
		if i == 0 || (k.Text == "fn" || k.Text == "chan") && k.At > 0 && s[k.At-1] == '\n' {
			cuts = append(cuts, k.At)
		}
	}
	for i, at := range cuts {
		end := append(slices.Clone(cuts), len(s))[i+1]
		texts = append(texts, s[at:end])
	}
	return texts, cuts
}

// next has s be the present text; what of it was not in the one ahead is counted.
func (h *history) next(s string, err api.Errno) api.Reply {
	texts, _ := pieces(s)
	switch {
	case err != api.OK:
		return no(err)
	case len(s) > 4000:
		return no(api.ErrMuch)
	case len(texts) > 30:
		return no(api.ErrMany)
	}
	var known []string
	if len(*h) > 0 {
		known, _ = pieces((*h)[len(*h)-1])
	}
	*h = append(*h, s)
	return fresh(len(slices.DeleteFunc(texts, func(text string) bool { return slices.Contains(known, text) })))
}

func (h *history) reply(a api.Ask) api.Reply {
	if a.Kind <= 0 || a.Kind > 9 {
		return no(api.ErrKind)
	}
	if a.Kind == api.AskOpen {
		return h.next(a.Text, api.OK)
	}
	if len(*h) == 0 {
		return no(api.ErrNone)
	}
	s := (*h)[len(*h)-1]
	switch a.Kind {
	case api.AskEdit:
		return h.edit(s, a.From, a.To, a.Text)
	case api.AskRename:
		return h.next(rename.To(s, a.From, a.Text))
	case api.AskText:
		return says(s)
	}
	return told(s, a)
}

func (h *history) edit(s string, from, to int, text string) api.Reply {
	if from < 0 || to < from || len(s) < to {
		return no(api.ErrRange)
	}
	return h.next(strings.Join([]string{s[:from], s[to:]}, text), api.OK)
}

// told answers what is asked of s alone.
func told(s string, a api.Ask) api.Reply {
	texts, cuts := pieces(s)
	f := api.File{}
	for i, text := range texts {
		f.Items = append(f.Items, parse.Item(text, cuts[i]))
	}
	switch a.Kind {
	case api.AskDiags:
		r := api.Reply{}
		for i := range f.Items {
			r.Diags = append(r.Diags, run.Diags(f, i)...)
		}
		return r
	case api.AskHover:
		for i, text := range texts {
			for k := range len(text) {
				if cuts[i]+k != a.From {
					continue
				}
				if n, ok := flow.Label(f, i, k); ok {
					return label(n)
				}
			}
		}
	case api.AskDef:
		if at, ok := rename.Def(f, a.From); ok {
			return from(at)
		}
	case api.AskLabels:
		if slices.ContainsFunc(f.Items, func(it api.Item) bool { return len(it.Diags) > 0 }) {
			return no(api.ErrBad)
		}
		return says(write.File(infer.Labels(f)))
	case api.AskRun:
		if r := run.Run(f, a.Text, a.Args); r.Err != api.OK {
			return no(r.Err)
		} else {
			return sent(r.N, r.Steps, r.Events...)
		}
	}
	return no(api.ErrNone)
}
