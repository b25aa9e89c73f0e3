package run

import (
	"undertone/api"
	"undertone/names"
)

// order is what the machine does: it has no statements in one another, but a list of orders, in which it goes on and jumps.
type order struct {
	do   string
	n    int // a number, a byte of the file where a local is made, an item, or where to jump
	name string
}

// code writes a function's orders. A local is known by the byte where it is made, as chapter 4 tells it.
type code struct {
	file api.File
	item api.Item
	uses map[int]int
	l    []order
}

func (c *code) add(do string, n int, name string) int {
	c.l = append(c.l, order{do, n, name})
	return len(c.l) - 1
}

func (c *code) expr(e api.Expr) {
	c.add("step", 0, "")
	for _, part := range e.Args {
		c.expr(part)
	}
	switch e.Kind {
	case api.ExInt:
		c.add("put", e.N, "")
	case api.ExVar:
		c.add("get", c.uses[c.item.At+e.From], "")
	case api.ExOp:
		c.add(e.Name, 0, "")
	case api.ExCall:
		c.add("call", names.Find(c.file, api.ItFn, e.Name), "")
	}
}

func (c *code) block(l []api.Stmt) {
	for _, st := range l {
		c.stmt(st)
	}
}

func (c *code) stmt(st api.Stmt) {
	begin := c.add("step", 0, "")
	c.expr(st.E)
	switch st.Kind {
	case api.StLet:
		c.add("set", c.item.At+st.At, "")
	case api.StSet:
		c.add("set", c.uses[c.item.At+st.At], "")
	case api.StSend:
		c.add("send", 0, st.Name)
	case api.StBack:
		c.add("back", 0, "")
	case api.StDo:
		c.add("drop", 0, "")
	case api.StIf:
		other := c.add("zero", 0, "")
		c.block(st.Then)
		end := c.add("jump", 0, "")
		c.l[other].n = len(c.l)
		c.block(st.Else)
		c.l[end].n = len(c.l)
	case api.StWhile:
		end := c.add("zero", 0, "")
		c.block(st.Then)
		c.add("jump", begin, "")
		c.l[end].n = len(c.l)
	}
}

// place is where the machine is in a function.
type place struct {
	fn, next, back int
	locals         map[int]int
}

type machine struct {
	codes [][]order
	file  api.File
	stack []int
	in    []place
	ran   api.Ran
}

func (m *machine) pop() int {
	n := m.stack[len(m.stack)-1]
	m.stack = m.stack[:len(m.stack)-1]
	return n
}

// enter takes as many numbers as the function has parameters, the last one first.
func (m *machine) enter(fn int) {
	if len(m.in) == 40 {
		m.ran.Err = api.ErrDeep
		return
	}
	p := place{fn: fn, locals: map[int]int{}}
	it := m.file.Items[fn]
	for i := len(it.Params) - 1; i >= 0; i-- {
		p.locals[it.At+it.Params[i].At] = m.pop()
	}
	m.in = append(m.in, p)
}

func (m *machine) do(o order) {
	p := &m.in[len(m.in)-1]
	switch o.do {
	case "step":
		m.ran.Steps++
		if m.ran.Steps > 3000 {
			m.ran.Err = api.ErrFuel
		}
	case "put":
		m.stack = append(m.stack, o.n)
	case "get":
		m.stack = append(m.stack, p.locals[o.n])
	case "set":
		p.locals[o.n] = m.pop()
	case "send":
		m.ran.Events = append(m.ran.Events, api.Event{Chan: o.name, N: m.pop()})
	case "back":
		p.back = m.pop()
	case "drop":
		m.pop()
	case "jump":
		p.next = o.n
	case "zero":
		if m.pop() == 0 {
			p.next = o.n
		}
	case "call":
		m.enter(o.n)
	default:
		b, a := m.pop(), m.pop()
		m.stack = append(m.stack, map[string]int{"+": a + b, "-": a + ^b + 1, "*": a * b, "<": map[bool]int{true: 1}[a < b], "=": map[bool]int{true: 1}[a == b]}[o.do])
	}
}

// byMachine has what Run must tell of item fn of a file with which nothing is wrong.
func byMachine(f api.File, fn int, args []int) api.Ran {
	m := &machine{file: f, codes: codes(f), stack: append([]int{}, args...)}
	m.enter(fn)
	for m.ran.Err == api.OK {
		p := &m.in[len(m.in)-1]
		if p.next == len(m.codes[p.fn]) {
			m.stack = append(m.stack, p.back)
			m.in = m.in[:len(m.in)-1]
			if len(m.in) == 0 {
				m.ran.N = m.pop()
				return m.ran
			}
			continue
		}
		p.next++
		m.do(m.codes[p.fn][p.next-1])
	}
	return api.Ran{Err: m.ran.Err}
}

func codes(f api.File) [][]order {
	uses := map[int]int{}
	for _, u := range names.Uses(f) {
		uses[u.From] = u.Def
	}
	var out [][]order
	for _, it := range f.Items {
		c := &code{file: f, item: it, uses: uses}
		c.block(it.Body)
		out = append(out, c.l)
	}
	return out
}
