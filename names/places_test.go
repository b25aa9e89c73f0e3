package names

import (
	"cmp"
	"slices"

	"undertone/api"
)

// Here names mean what they do by places alone: a local is there from one byte of its item to another, and what is asked later stands, or ends, further on.

// local is one that is there for names from byte from on, and ahead of byte to.
type local struct {
	api.Ref
	from, to int
}

// event is a name that is told of, and the place by which it comes in turn.
type event struct {
	turn int
	api.Ref
	err  api.Errno
	used bool
	def  int
}

type answer struct {
	diags []api.Diag
	uses  []api.Use
}

type places struct {
	file   api.File
	base   int
	locals []local
	events []event
}

// flat has all statements, in any depth.
func flat(l []api.Stmt) []api.Stmt {
	var out []api.Stmt
	for _, st := range l {
		out = append(out, st)
		out = append(out, flat(st.Then)...)
		out = append(out, flat(st.Else)...)
	}
	return out
}

func flatExprs(l []api.Expr) []api.Expr {
	var out []api.Expr
	for _, e := range l {
		out = append(out, e)
		out = append(out, flatExprs(e.Args)...)
	}
	return out
}

// lets gathers the locals of a block, and of those in it.
func (p *places) lets(l []api.Stmt) {
	for _, st := range l {
		if st.Kind == api.StLet && st.Name != "" {
			p.locals = append(p.locals, local{api.Ref{Name: st.Name, At: st.At}, st.To, l[len(l)-1].To})
		}
		p.lets(st.Then)
		p.lets(st.Else)
	}
}

// means has the local of a name that is there at a byte: the one that is furthest on.
func (p *places) means(name string, at int) int {
	last := -1
	for _, l := range p.locals {
		if l.Name == name && l.from <= at && at < l.to {
			last = max(last, l.At)
		}
	}
	return last
}

func (p *places) tell(turn int, r api.Ref, err api.Errno) {
	if r.Name != "" {
		p.events = append(p.events, event{turn: turn, Ref: r, err: err})
	}
}

// asks has a name of a local be used, or be none.
func (p *places) asks(turn int, r api.Ref) {
	if at := p.means(r.Name, r.At); at >= 0 {
		p.events = append(p.events, event{turn: turn, Ref: r, used: true, def: p.base + at})
		return
	}
	p.tell(turn, r, api.ErrNone)
}

// asksItem likewise, and has the item.
func (p *places) asksItem(turn int, r api.Ref, kind int) *api.Item {
	for i := range p.file.Items {
		if it := &p.file.Items[i]; r.Name != "" && it.Kind == kind && it.Name == r.Name {
			p.events = append(p.events, event{turn: turn, Ref: r, used: true, def: it.At + it.Mark})
			return it
		}
	}
	p.tell(turn, r, api.ErrNone)
	return nil
}

func (p *places) stmt(st api.Stmt) {
	for _, e := range flatExprs([]api.Expr{st.E}) {
		r := api.Ref{Name: e.Name, At: e.From}
		switch e.Kind {
		case api.ExVar:
			p.asks(2*e.From, r)
		case api.ExCall:
			if fn := p.asksItem(2*e.From, r, api.ItFn); fn != nil && len(fn.Params) != len(e.Args) {
				p.tell(2*e.From, r, api.ErrMany)
			}
		}
	}
	// Ahead of all that stands behind the statement, and behind all that stands in it.
	turn, r := 2*st.To-1, api.Ref{Name: st.Name, At: st.At}
	switch st.Kind {
	case api.StLet:
		if p.means(r.Name, r.At) >= 0 {
			p.tell(turn, r, api.ErrName)
		}
	case api.StSet:
		p.asks(turn, r)
	case api.StSend:
		p.asksItem(turn, r, api.ItChan)
	}
}

func (p *places) function(it api.Item) {
	for _, x := range it.Params {
		r := api.Ref{Name: x.Name, At: x.At}
		if p.means(r.Name, r.At) >= 0 {
			p.tell(2*r.At, r, api.ErrName)
		}
		p.locals = append(p.locals, local{r, r.At + 1, it.Size})
	}
	for i, r := range it.Sends {
		p.asksItem(2*r.At, r, api.ItChan)
		if slices.IndexFunc(it.Sends, func(o api.Ref) bool { return o.Name == r.Name }) < i {
			p.tell(2*r.At, r, api.ErrName)
		}
	}
	p.lets(it.Body)
	for _, st := range flat(it.Body) {
		p.stmt(st)
	}
}

// placed is what must be told of item i.
func placed(f api.File, i int) answer {
	it := f.Items[i]
	p := &places{file: f, base: it.At}
	for _, o := range f.Items[:i] {
		if it.Kind != api.ItBad && o.Kind == it.Kind && o.Name == it.Name {
			p.tell(2*it.Mark, api.Ref{Name: it.Name, At: it.Mark}, api.ErrName)
			break
		}
	}
	if it.Kind == api.ItFn {
		p.function(it)
	}
	slices.SortStableFunc(p.events, func(a, b event) int { return cmp.Compare(a.turn, b.turn) })
	var out answer
	for _, e := range p.events {
		end := e.At + len(e.Name)
		if e.used {
			out.uses = append(out.uses, api.Use{From: p.base + e.At, To: p.base + end, Def: e.def})
		} else {
			out.diags = append(out.diags, api.Diag{From: e.At, To: end, Err: e.err, Name: e.Name})
		}
	}
	return out
}
