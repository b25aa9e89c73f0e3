package parse

import (
	"undertone/api"
	"undertone/label"
	"undertone/lex"
)

// reader goes through the tokens of an item, and never back.
type reader struct {
	toks  []api.Token
	size  int // of the item's text
	gone  int // how many tokens are gone past
	end   int // where the last one of these ends
	deep  int // in how many blocks, calls and parentheses
	diags []api.Diag
}

// peek has the next token; at the end one without bytes, so that it is none of those that are looked for.
func (r *reader) peek() api.Token {
	if r.left() {
		return r.toks[r.gone]
	}
	return api.Token{At: r.size}
}

func (r *reader) left() bool { return r.gone < len(r.toks) }

func (r *reader) is(text string) bool { return r.peek().Text == text }

// pass goes past the next token.
func (r *reader) pass() api.Token {
	t := r.peek()
	r.gone++
	r.end = t.At + len(t.Text)
	return t
}

// tell has something be wrong with the next token.
func (r *reader) tell(err api.Errno) {
	t := r.peek()
	r.diags = append(r.diags, api.Diag{From: t.At, To: t.At + len(t.Text), Err: err, Name: t.Text})
}

// take goes past the next token, if it is text.
func (r *reader) take(text string) bool {
	if !r.is(text) {
		return false
	}
	r.pass()
	return true
}

// need takes text where nothing else may stand.
func (r *reader) need(text string) bool {
	if r.take(text) {
		return true
	}
	r.tell(api.ErrForm)
	return false
}

// enter and leave count how deep it is; leave is deferred, so that each way out comes back up.
func (r *reader) enter() { r.deep++ }

func (r *reader) leave() { r.deep-- }

// more tells whether a list that has n parts goes on ahead of end.
func (r *reader) more(n, most int, end string) bool {
	if !r.left() || r.is(end) {
		return false
	}
	if n == most {
		r.tell(api.ErrMany)
		return false
	}
	return true
}

// name reads a name, which is empty if there is none.
func (r *reader) name() string {
	t := r.peek()
	if t.Kind != api.TokWord {
		r.tell(api.ErrForm)
		return ""
	}
	if !lex.Name(t.Text) {
		r.tell(api.ErrName)
		r.pass()
		return ""
	}
	return r.pass().Text
}

func (r *reader) item() api.Item {
	var it api.Item
	switch {
	case r.take("fn"):
		it = r.function()
	case r.take("chan"):
		it = r.channel()
	default:
		r.tell(api.ErrForm)
		return api.Item{Kind: api.ItBad}
	}
	if r.left() {
		r.tell(api.ErrForm)
	}
	return it
}

func (r *reader) function() api.Item {
	it := api.Item{Kind: api.ItFn, Mark: r.peek().At}
	it.Name = r.name()
	r.need("(")
	it.Params = r.params()
	r.need(")")
	r.need(":")
	it.Label = r.label()
	it.Sends = r.sends()
	it.Body = r.block()
	return it
}

func (r *reader) channel() api.Item {
	it := api.Item{Kind: api.ItChan, Mark: r.peek().At}
	it.Name = r.name()
	r.need(":")
	it.Label = r.label()
	r.need(";")
	return it
}

func (r *reader) params() []api.Param {
	var out []api.Param
	for r.more(len(out), api.MaxParams, ")") {
		p := api.Param{At: r.peek().At}
		p.Name = r.name()
		if !r.need(":") {
			break
		}
		p.Label = r.label()
		out = append(out, p)
		if !r.take(",") {
			break
		}
	}
	return out
}

func (r *reader) sends() []api.Ref {
	var out []api.Ref
	for on := r.take("sends"); on; on = r.take(",") {
		// At the end it is the name that is missing.
		if len(out) == api.MaxParams && r.left() {
			r.tell(api.ErrMany)
			break
		}
		at := r.peek().At
		out = append(out, api.Ref{Name: r.name(), At: at})
	}
	return out
}

func (r *reader) label() int {
	n := 0
	if !r.need("{") {
		return n
	}
	for tag := r.tag(); tag != 0; tag = r.tag() {
		if label.Flows(tag, n) {
			r.tell(api.ErrName)
		}
		n = label.Join(n, tag)
		r.pass()
		if !r.take(",") {
			break
		}
	}
	// What is no tag is told once: as what is no `}` either.
	r.need("}")
	return n
}

// tag has the label of the next token alone, or 0, if it is no tag.
func (r *reader) tag() int {
	n, _ := label.Parse("{" + r.peek().Text + "}")
	return n
}
