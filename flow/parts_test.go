package flow

import (
	"undertone/api"
	"undertone/names"
)

// Here an item is taken apart: all statements and expressions stand in lists, each with what it is a part of, and each question is answered by looking outwards. What a local is, names.Uses tells.

// piece is an expression: argument arg of its call, if it is one's, and the condition, or whatever else, of statement st.
type piece struct {
	api.Expr
	call *api.Expr
	arg  int
	st   int
}

// line is a statement, in a block of statement in, or, if that is -1, of the function.
type line struct {
	api.Stmt
	in int
}

type parts struct {
	file   api.File
	item   api.Item
	lines  []line
	pieces []piece
	made   map[int]int // by the byte of the file where a name stands, that where its local is made
}

func apart(f api.File, i int) *parts {
	p := &parts{file: f, item: f.Items[i], made: map[int]int{}}
	for _, u := range names.Uses(f) {
		p.made[u.From] = u.Def
	}
	if p.item.Kind == api.ItFn {
		p.takeStmts(p.item.Body, -1)
	}
	return p
}

func (p *parts) takeStmts(l []api.Stmt, in int) {
	for _, st := range l {
		k := len(p.lines)
		p.lines = append(p.lines, line{st, in})
		p.takeExpr(st.E, nil, 0, k)
		p.takeStmts(st.Then, k)
		p.takeStmts(st.Else, k)
	}
}

// takeExpr has parts stand ahead of what they are parts of.
func (p *parts) takeExpr(e api.Expr, call *api.Expr, arg, st int) {
	for i, a := range e.Args {
		if e.Kind == api.ExCall {
			p.takeExpr(a, &e, i, st)
		} else {
			p.takeExpr(a, nil, 0, st)
		}
	}
	p.pieces = append(p.pieces, piece{e, call, arg, st})
}

// first has the first item of that kind and name.
func (p *parts) first(kind int, name string) *api.Item {
	for i := range p.file.Items {
		if it := &p.file.Items[i]; name != "" && it.Kind == kind && it.Name == name {
			return it
		}
	}
	return nil
}

// floorsByTags asks tag by tag whether all channels have it.
func floorsByTags(f api.File) []int {
	p := &parts{file: f}
	var out []int
	for _, it := range f.Items {
		n := 0
		for tag := 1; tag < api.Top; tag *= 2 {
			all := true
			for _, r := range it.Sends {
				c := p.first(api.ItChan, r.Name)
				all = all && (c == nil || c.Label&tag != 0)
			}
			if all {
				n += tag
			}
		}
		out = append(out, n)
	}
	return out
}

// local has the label of what the name at a byte of the item means.
func (p *parts) local(at int) int {
	def, ok := p.made[p.item.At+at]
	if !ok {
		return 0
	}
	for _, x := range p.item.Params {
		if p.item.At+x.At == def {
			return x.Label
		}
	}
	for k, st := range p.lines {
		if st.Kind != api.StLet || p.item.At+st.At != def {
			continue
		}
		if st.Open {
			return p.tags(st.E) | p.around(k)
		}
		return st.Label
	}
	return 0
}

func (p *parts) tags(e api.Expr) int {
	switch e.Kind {
	case api.ExVar:
		return p.local(e.From)
	case api.ExOp:
		return p.tags(e.Args[0]) | p.tags(e.Args[1])
	case api.ExCall:
		if fn := p.first(api.ItFn, e.Name); fn != nil {
			return fn.Label
		}
	}
	return 0
}

// around has all tags that statement k is under.
func (p *parts) around(k int) int {
	n := 0
	for k = p.lines[k].in; k >= 0; k = p.lines[k].in {
		n |= p.tags(p.lines[k].E)
	}
	return n
}

func (p *parts) under(x piece) int {
	n := p.around(x.st)
	if st := p.lines[x.st]; st.Kind == api.StWhile {
		n |= p.tags(st.E)
	}
	return n
}

func (p *parts) label(at int) (int, bool) {
	for _, x := range p.pieces {
		if at >= x.From && at < x.To {
			return p.tags(x.Expr) | p.under(x), true
		}
	}
	return 0, false
}

// called asks whether a call may be where it is.
func (p *parts) called(x piece) []api.Diag {
	fn := p.first(api.ItFn, x.Name)
	if fn == nil || x.Kind != api.ExCall {
		return nil
	}
	for _, r := range fn.Sends {
		if c := p.first(api.ItChan, r.Name); c != nil && p.under(x)|c.Label != c.Label {
			return []api.Diag{{From: x.From, To: x.To, Err: api.ErrFlow, Name: x.Name}}
		}
	}
	return nil
}

// handed asks whether an argument may be handed to its parameter.
func (p *parts) handed(x piece) []api.Diag {
	if x.call == nil {
		return nil
	}
	fn := p.first(api.ItFn, x.call.Name)
	if fn == nil || x.arg >= len(fn.Params) {
		return nil
	}
	to := fn.Params[x.arg]
	if (p.tags(x.Expr)|p.under(x))&^to.Label == 0 {
		return nil
	}
	return []api.Diag{{From: x.From, To: x.To, Err: api.ErrFlow, Name: to.Name}}
}

// hearer has the label of who hears what statement k tells; of one that tells nothing all tags.
func (p *parts) hearer(k int) int {
	st := p.lines[k]
	switch {
	case st.Kind == api.StLet && !st.Open:
		return st.Label
	case st.Kind == api.StSet:
		return p.local(st.At)
	case st.Kind == api.StBack:
		return p.item.Label
	case st.Kind == api.StSend:
		if c := p.first(api.ItChan, st.Name); c != nil {
			return c.Label
		}
	}
	return api.Top
}

func (p *parts) diags() []api.Diag {
	var out []api.Diag
	for k, st := range p.lines {
		for _, x := range p.pieces {
			if x.st == k {
				out = append(out, p.called(x)...)
				out = append(out, p.handed(x)...)
			}
		}
		if (p.tags(st.E)|p.around(k))&^p.hearer(k) != 0 {
			out = append(out, api.Diag{From: st.From, To: st.To, Err: api.ErrFlow, Name: st.Name})
		}
	}
	return out
}

// lets has, of each let, all that its maker and its setters are told.
func (p *parts) lets() []int {
	var out []int
	for k, st := range p.lines {
		if st.Kind != api.StLet {
			continue
		}
		n := p.tags(st.E) | p.around(k)
		for other, set := range p.lines {
			def, ok := p.made[p.item.At+set.At]
			if set.Kind == api.StSet && set.Name != "" && ok && def == p.item.At+st.At {
				n |= p.tags(set.E) | p.around(other)
			}
		}
		out = append(out, n)
	}
	return out
}
