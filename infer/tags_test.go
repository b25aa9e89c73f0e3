package infer

import (
	"undertone/api"
	"undertone/names"
)

// Here tags go on from let to let, one at a time, until none is on its way. What local a name means, names.Uses tells.

// arrival is a tag that has come to an open let.
type arrival struct{ let, tag int }

type tagged struct {
	file   api.File
	item   api.Item
	lets   []*api.Stmt
	begun  int         // how many lets have been come upon
	number map[int]int // by the byte of the file where its name stands, the number of a let, from 1 on
	params map[int]int // likewise the label of a parameter
	meant  map[int]int // by the byte of the file where a name stands, that where its local is made
	labels []int
	next   [][]int // of each open let, those to which its tags go on
	work   []arrival
}

// byTags has the labels of all lets of item i.
func byTags(f api.File, i int, lets []*api.Stmt) []int {
	p := &tagged{file: f, item: f.Items[i], lets: lets, number: map[int]int{}, params: map[int]int{}, meant: map[int]int{}}
	p.labels, p.next = make([]int, len(lets)), make([][]int, len(lets))
	for k, st := range lets {
		if st.Name != "" {
			p.number[p.item.At+st.At] = k + 1
		}
		if !st.Open {
			p.labels[k] = st.Label
		}
	}
	for _, x := range p.item.Params {
		p.params[p.item.At+x.At] = x.Label
	}
	for _, u := range names.Uses(f) {
		p.meant[u.From] = u.Def
	}
	p.block(p.item.Body, nil)
	for len(p.work) > 0 {
		came := p.work[0]
		p.work = p.work[1:]
		for _, k := range p.next[came.let] {
			p.comes(k, came.tag)
		}
	}
	return p.labels
}

// comes has tags come to an open let.
func (p *tagged) comes(let, n int) {
	for tag := 1; tag <= api.Top; tag *= 2 {
		if n&tag != 0 && p.labels[let]&tag == 0 {
			p.labels[let] |= tag
			p.work = append(p.work, arrival{let, tag})
		}
	}
}

func (p *tagged) block(l []api.Stmt, under []api.Expr) {
	for _, st := range l {
		all := append(append([]api.Expr{}, under...), st.E)
		if to := p.hearer(st); to >= 0 && p.lets[to].Open {
			for _, e := range all {
				p.tells(to, e)
			}
		}
		p.block(st.Then, all)
		p.block(st.Else, all)
	}
}

// hearer has the number of the let that hears what a statement tells, or -1.
func (p *tagged) hearer(st api.Stmt) int {
	switch {
	case st.Kind == api.StLet:
		p.begun++
		return p.begun - 1
	case st.Kind == api.StSet && st.Name != "":
		return p.number[p.meant[p.item.At+st.At]] - 1
	}
	return -1
}

// tells has all that stands in an expression told to an open let.
func (p *tagged) tells(to int, e api.Expr) {
	switch e.Kind {
	case api.ExVar:
		def := p.meant[p.item.At+e.From]
		if from := p.number[def] - 1; from >= 0 && p.lets[from].Open {
			p.next[from] = append(p.next[from], to)
		} else if from >= 0 {
			p.comes(to, p.lets[from].Label)
		} else {
			p.comes(to, p.params[def])
		}
	case api.ExOp:
		p.tells(to, e.Args[0])
		p.tells(to, e.Args[1])
	case api.ExCall:
		if fn := names.Find(p.file, api.ItFn, e.Name); fn >= 0 {
			p.comes(to, p.file.Items[fn].Label)
		}
	}
}
