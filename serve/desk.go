package serve

import (
	"undertone/api"
	"undertone/flow"
	"undertone/infer"
	"undertone/parse"
	"undertone/rename"
	"undertone/run"
	"undertone/write"
)

// desk has the text that is asked about, and what was read of it. That there is a text has a field of its own, as a text may be empty.
type desk struct {
	open bool
	text string
	file api.File
}

func (d *desk) reply(a api.Ask) api.Reply {
	if a.Kind < api.AskOpen || a.Kind > api.AskText {
		return refused(api.ErrKind)
	}
	if a.Kind == api.AskOpen {
		return d.turn(a.Text, api.OK)
	}
	if !d.open {
		return refused(api.ErrNone)
	}
	switch a.Kind {
	case api.AskEdit:
		return d.turn(parse.Change(d.text, api.Edit{From: a.From, To: a.To, Text: a.Text}))
	case api.AskRename:
		return d.turn(rename.To(d.text, a.From, a.Text))
	}
	return d.tell(a)
}

// tell answers what leaves the text as it is.
func (d *desk) tell(a api.Ask) api.Reply {
	switch a.Kind {
	case api.AskDiags:
		return api.Reply{Diags: run.All(d.file)}
	case api.AskHover:
		return d.hover(a.From)
	case api.AskDef:
		return d.def(a.From)
	case api.AskLabels:
		return d.labels()
	case api.AskRun:
		return d.run(a.Text, a.Args)
	}
	return api.Reply{Text: d.text}
}

// refused is all of a reply beside an error.
func refused(err api.Errno) api.Reply { return api.Reply{Err: err} }

// turn has s be the text. What there was stays until s is read, as s may be too much.
func (d *desk) turn(s string, err api.Errno) api.Reply {
	if err != api.OK {
		return refused(err)
	}
	f, fresh, err := parse.Again(d.file, d.text, s)
	if err != api.OK {
		return refused(err)
	}
	d.open, d.text, d.file = true, s, f
	return api.Reply{Fresh: fresh}
}

func (d *desk) hover(at int) api.Reply {
	for i, it := range d.file.Items {
		if it.At <= at && at < it.At+it.Size {
			if n, ok := flow.Label(d.file, i, at-it.At); ok {
				return api.Reply{Label: n}
			}
		}
	}
	return refused(api.ErrNone)
}

func (d *desk) def(at int) api.Reply {
	from, ok := rename.Def(d.file, at)
	if !ok {
		return refused(api.ErrNone)
	}
	return api.Reply{From: from}
}

// labels asks only for what was told as the items were read: with that a file can't be written, whatever else is wrong.
func (d *desk) labels() api.Reply {
	for _, it := range d.file.Items {
		if len(it.Diags) > 0 {
			return refused(api.ErrBad)
		}
	}
	return api.Reply{Text: write.File(infer.Labels(d.file))}
}

func (d *desk) run(name string, args []int) api.Reply {
	ran := run.Run(d.file, name, args)
	if ran.Err != api.OK {
		return refused(ran.Err)
	}
	return api.Reply{Ran: ran}
}
