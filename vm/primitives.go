package vm

import (
	"maps"

	"shed/api"
	"shed/arith"
	"shed/class"
	"shed/code"
	"shed/number"
	"shed/object"
)

// does is what a primitive does.
type does func(*Machine) api.Code

// primitives returns what the primitives do, by their numbers.
func primitives() map[int64]does {
	all := arithmetic()
	for _, part := range [...]map[string]does{flow(), shuffles(), memory(), output(), heaps(), objects()} {
		maps.Copy(all, part)
	}
	byNumber := map[int64]does{}
	for name, do := range all {
		byNumber[code.Number(name)] = do
	}
	return byNumber
}

// flow are those that say where it goes on.
func flow() map[string]does {
	return map[string]does{
		"exit":     (*Machine).exit,
		"lit":      (*Machine).lit,
		"branch":   (*Machine).branch,
		"0branch":  (*Machine).branchIfZero,
		"(do)":     (*Machine).do,
		"(loop)":   func(m *Machine) api.Code { return m.loop(1) },
		"(+loop)":  with((*Machine).loop),
		"i":        func(m *Machine) api.Code { return m.pushBack(0) },
		"j":        func(m *Machine) api.Code { return m.pushBack(2) },
		"r@":       func(m *Machine) api.Code { return m.pushBack(0) },
		">r":       with(func(m *Machine, n int64) api.Code { return m.R.Push(n) }),
		"r>":       (*Machine).fromBack,
		"unloop":   (*Machine).unloop,
		"execute":  with((*Machine).enter),
		"catch":    with((*Machine).catch),
		"(caught)": (*Machine).endCatch,
		"throw":    with(func(m *Machine, n int64) api.Code { return api.Code(n) }),
		"abort":    func(m *Machine) api.Code { return api.Abort },
		"bye":      (*Machine).bye,
	}
}

// shuffles are those that arrange what is on the data stack.
func shuffles() map[string]does {
	return map[string]does{
		"dup":   rearrange(1, 0, 0),
		"drop":  rearrange(1),
		"swap":  rearrange(2, 1, 0),
		"over":  rearrange(2, 0, 1, 0),
		"rot":   rearrange(3, 1, 2, 0),
		"nip":   rearrange(2, 1),
		"tuck":  rearrange(2, 1, 0, 1),
		"?dup":  with((*Machine).dupUnlessZero),
		"pick":  with((*Machine).pick),
		"depth": func(m *Machine) api.Code { return m.D.Push(int64(m.D.Depth())) },
	}
}

// memory are those that read and write the memory, and allocate in the dictionary.
func memory() map[string]does {
	return map[string]does{
		"@":     fetch((*Machine).Cell),
		"c@":    fetch((*Machine).Byte),
		"!":     store((*Machine).SetCell),
		"c!":    store((*Machine).SetByte),
		"+!":    store((*Machine).increase),
		"here":  func(m *Machine) api.Code { return m.D.Push(m.Here()) },
		"allot": with((*Machine).Allot),
		",":     with((*Machine).Comma),
		"c,":    with((*Machine).Char),
		"align": (*Machine).Align,
	}
}

// output are those that add to the output, and key, which reads the input.
func output() map[string]does {
	return map[string]does{
		"emit":  with((*Machine).emit),
		"cr":    func(m *Machine) api.Code { return m.tell("\n") },
		"space": func(m *Machine) api.Code { return m.tell(" ") },
		"type":  (*Machine).typeText,
		".":     with(func(m *Machine, n int64) api.Code { return m.tellNumber(number.Show(n, m.Base())) }),
		"u.":    with(func(m *Machine, n int64) api.Code { return m.tellNumber(number.Unsigned(uint64(n), m.Base())) }),
		"key":   (*Machine).key,
	}
}

// heaps are those that allocate in the heap; their codes are pushed, not thrown.
func heaps() map[string]does {
	return map[string]does{
		"allocate": with((*Machine).allocate),
		"free":     with(func(m *Machine, a int64) api.Code { return m.D.Push(int64(m.Heap.Free(a))) }),
		"resize":   (*Machine).resize,
	}
}

// objects are those for objects, and their methods.
func objects() map[string]does {
	return map[string]does{
		"self":    func(m *Machine) api.Code { return m.D.Push(m.Self) },
		"new":     with((*Machine).newObject),
		"classof": with((*Machine).classOf),
		"(send)":  with((*Machine).sendInline),
		"(call)":  with((*Machine).callInline),
		"(super)": (*Machine).super,
		"(exitm)": (*Machine).exitMethod,
	}
}

// arithmetic are those of layer 4.
func arithmetic() map[string]does {
	all := map[string]does{}
	for _, name := range code.Names() {
		if _, _, ok := arith.Two(name, 1, 1); ok {
			all[name] = func(m *Machine) api.Code { return m.two(name) }
		}
		if _, ok := arith.One(name, 1); ok {
			all[name] = with(func(m *Machine, a int64) api.Code { return m.one(name, a) })
		}
	}
	return all
}

// with returns what takes one number, and does f with it.
func with(f func(m *Machine, n int64) api.Code) does {
	return func(m *Machine) api.Code {
		l, e := m.take(1)
		if e != api.OK {
			return e
		}
		return f(m, l[0])
	}
}

// rearrange returns what takes n numbers, and pushes those of an order.
func rearrange(n int, order ...int) does {
	return func(m *Machine) api.Code {
		l, e := m.take(n)
		if e != api.OK {
			return e
		}
		to := make([]int64, len(order))
		for i, from := range order {
			to[i] = l[from]
		}
		return m.D.Push(to...)
	}
}

// fetch returns what takes an address, and pushes what is there.
func fetch(read func(m *Machine, a int64) (int64, api.Code)) does {
	return with(func(m *Machine, a int64) api.Code {
		n, e := read(m, a)
		if e != api.OK {
			return e
		}
		return m.D.Push(n)
	})
}

// store returns what takes a number, and an address, and writes there.
func store(write func(m *Machine, a, n int64) api.Code) does {
	return func(m *Machine) api.Code {
		l, e := m.take(2)
		if e != api.OK {
			return e
		}
		return write(m, l[1], l[0])
	}
}

func (m *Machine) exit() api.Code {
	l, e := m.takeBack(1)
	if e != api.OK {
		return e
	}
	m.IP = l[0]
	return api.OK
}

func (m *Machine) lit() api.Code {
	n, e := m.inline()
	if e != api.OK {
		return e
	}
	return m.D.Push(n)
}

func (m *Machine) branch() api.Code {
	to, e := m.inline()
	if e != api.OK {
		return e
	}
	m.IP = to
	return api.OK
}

func (m *Machine) branchIfZero() api.Code {
	l, e := m.take(1)
	if e != api.OK {
		return e
	}
	to, e := m.inline()
	if e != api.OK {
		return e
	}
	if l[0] == 0 {
		m.IP = to
	}
	return api.OK
}

func (m *Machine) do() api.Code {
	l, e := m.take(2)
	if e != api.OK {
		return e
	}
	return m.R.Push(l...)
}

// loop ends a loop, if a step of n crosses the border between limit less 1 and limit.
func (m *Machine) loop(n int64) api.Code {
	to, e := m.inline()
	if e != api.OK {
		return e
	}
	l, e := m.takeBack(2)
	if e != api.OK {
		return e
	}
	limit, index := l[0], l[1]
	x := index - limit
	y := x + n
	if (x < 0) != (y < 0) && (x < 0) != (n < 0) {
		return api.OK
	}
	m.IP = to
	return m.R.Push(limit, index+n)
}

// pushBack pushes the i-th number of the return stack from the last one on.
func (m *Machine) pushBack(i int) api.Code {
	n, e := m.R.At(i)
	if e != api.OK {
		return e
	}
	return m.D.Push(n)
}

func (m *Machine) fromBack() api.Code {
	l, e := m.takeBack(1)
	if e != api.OK {
		return e
	}
	return m.D.Push(l[0])
}

func (m *Machine) unloop() api.Code {
	_, e := m.takeBack(2)
	return e
}

// catch executes a word; what it pushes says how it goes on after a code.
func (m *Machine) catch(xt int64) api.Code {
	if e := m.R.Push(m.IP, m.Self, int64(m.D.Depth()), m.handler); e != api.OK {
		return e
	}
	m.handler = int64(m.R.Depth())
	m.IP = m.caught
	return m.enter(xt)
}

func (m *Machine) endCatch() api.Code {
	if _, e := m.unwind(); e != api.OK {
		return e
	}
	return m.D.Push(0)
}

func (m *Machine) bye() api.Code {
	m.Over = true
	return api.OK
}

func (m *Machine) dupUnlessZero(n int64) api.Code {
	if n == 0 {
		return m.D.Push(n)
	}
	return m.D.Push(n, n)
}

func (m *Machine) pick(i int64) api.Code {
	if i < 0 || i >= int64(m.D.Depth()) {
		return api.Under
	}
	n, e := m.D.At(int(i))
	if e != api.OK {
		return e
	}
	return m.D.Push(n)
}

func (m *Machine) two(name string) api.Code {
	l, e := m.take(2)
	if e != api.OK {
		return e
	}
	n, e, _ := arith.Two(name, l[0], l[1])
	if e != api.OK {
		return e
	}
	return m.D.Push(n)
}

func (m *Machine) one(name string, a int64) api.Code {
	n, _ := arith.One(name, a)
	return m.D.Push(n)
}

// increase adds n to the number of a cell.
func (m *Machine) increase(a, n int64) api.Code {
	x, e := m.Cell(a)
	if e != api.OK {
		return e
	}
	return m.SetCell(a, x+n)
}

// tell is Put as a primitive.
func (m *Machine) tell(s string) api.Code {
	m.Put(s)
	return api.OK
}

func (m *Machine) emit(n int64) api.Code {
	return m.tell(string([]byte{byte(n)}))
}

func (m *Machine) typeText() api.Code {
	l, e := m.take(2)
	if e != api.OK {
		return e
	}
	s, e := m.Text(l[0], l[1])
	if e != api.OK {
		return e
	}
	return m.tell(s)
}

// tellNumber outputs the text of a number, which has none in a wrong base.
func (m *Machine) tellNumber(s string) api.Code {
	if s == "" {
		return api.Base
	}
	return m.tell(s + " ")
}

func (m *Machine) key() api.Code {
	if m.In == "" {
		return m.D.Push(-1)
	}
	c := m.In[0]
	m.In = m.In[1:]
	return m.D.Push(int64(c))
}

func (m *Machine) allocate(n int64) api.Code {
	a, e := m.Heap.Alloc(n)
	return m.D.Push(a, int64(e))
}

func (m *Machine) resize() api.Code {
	l, e := m.take(2)
	if e != api.OK {
		return e
	}
	a, e := m.Heap.Resize(l[0], l[1])
	if e != api.OK {
		a = l[0]
	}
	return m.D.Push(a, int64(e))
}

// newObject makes an object of a class of the ROOT.
func (m *Machine) newObject(c int64) api.Code {
	if !class.Is(m.Mem, m.Root, c) {
		return api.NoClass
	}
	at, e := object.Heap(m.Heap, m.Mem, c)
	if e != api.OK {
		return e
	}
	return m.D.Push(at)
}

func (m *Machine) classOf(at int64) api.Code {
	c, e := object.Class(m.Mem, m.Root, at)
	if e != api.OK {
		return e
	}
	return m.D.Push(c)
}

func (m *Machine) sendInline(at int64) api.Code {
	sel, e := m.inline()
	if e != api.OK {
		return e
	}
	return m.Send(at, sel)
}

func (m *Machine) callInline(at int64) api.Code {
	xt, e := m.inline()
	if e != api.OK {
		return e
	}
	return m.enterMethod(xt, at)
}

func (m *Machine) super() api.Code {
	c, e := m.inline()
	if e != api.OK {
		return e
	}
	sel, e := m.inline()
	if e != api.OK {
		return e
	}
	x, _, ok := class.Lookup(m.Mem, c, sel)
	if !ok {
		return api.NoMethod
	}
	return m.enterMethod(x.XT, m.Self)
}

func (m *Machine) exitMethod() api.Code {
	l, e := m.takeBack(2)
	if e != api.OK {
		return e
	}
	m.Self, m.IP = l[0], l[1]
	return api.OK
}
