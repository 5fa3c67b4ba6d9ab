package outer

import (
	"shed/api"
	"shed/code"
	"shed/control"
	"shed/head"
)

// table returns the words of the text interpreter. Whether they are refused is decided here for all that are for definitions alone, or never for them.
func table() map[string]func(*Outer) api.Code {
	words := map[string]func(*Outer) api.Code{
		";":    (*Outer).semicolon,
		"(":    (*Outer).comment,
		"\\":   (*Outer).skip,
		"s\"":  (*Outer).quote,
		".\"":  (*Outer).tell,
		"char": (*Outer).char,
		"'":    (*Outer).tick,
	}
	for name, do := range compiling() {
		words[name] = func(o *Outer) api.Code {
			if !o.Compiling {
				return api.Only
			}
			return do(o)
		}
	}
	for name, do := range interpreting() {
		words[name] = func(o *Outer) api.Code {
			if o.Compiling {
				return api.Control
			}
			return do(o)
		}
	}
	return words
}

// compiling returns the words that are for definitions.
func compiling() map[string]func(*Outer) api.Code {
	return map[string]func(*Outer) api.Code{
		"recurse": (*Outer).recurse,
		"exit":    (*Outer).exit,
		"if":      func(o *Outer) api.Code { return o.forward("0branch", control.If) },
		"while":   func(o *Outer) api.Code { return o.forward("0branch", control.While) },
		"else":    (*Outer).otherwise,
		"then":    (*Outer).then,
		"begin":   func(o *Outer) api.Code { return o.Marks.Open(control.Begin, o.Here()) },
		"do":      (*Outer).do,
		"again":   func(o *Outer) api.Code { return o.back("branch", control.Begin) },
		"until":   func(o *Outer) api.Code { return o.back("0branch", control.Begin) },
		"repeat":  (*Outer).repeat,
		"loop":    func(o *Outer) api.Code { return o.back("(loop)", control.Do) },
		"+loop":   func(o *Outer) api.Code { return o.back("(+loop)", control.Do) },
	}
}

// interpreting returns the words that aren't for definitions.
func interpreting() map[string]func(*Outer) api.Code {
	return map[string]func(*Outer) api.Code{
		":":         (*Outer).colon,
		"immediate": (*Outer).immediate,
		"variable":  func(o *Outer) api.Code { return o.makeNext(code.Variable, 0) },
		"create":    func(o *Outer) api.Code { return o.makeNext(code.Variable) },
		"constant":  (*Outer).constant,
	}
}

func (o *Outer) colon() api.Code {
	o.Keep()
	name, e := o.Name()
	if e != api.OK {
		return e
	}
	w, e := o.Make(o.List, name, code.Colon, head.Hidden)
	if e != api.OK {
		return e
	}
	o.open = w
	o.Start(false)
	return api.OK
}

func (o *Outer) semicolon() api.Code {
	if o.Method {
		return api.Control
	}
	if e := o.Stop(); e != api.OK {
		return e
	}
	if e := o.Compile("exit"); e != api.OK {
		return e
	}
	head.Mark(o.Mem, o.open, 0)
	w := o.open
	o.last = &w
	if len(o.Order) == 1 {
		o.Kept()
	}
	return api.OK
}

func (o *Outer) immediate() api.Code {
	if o.last == nil {
		return api.Control
	}
	return head.Mark(o.Mem, *o.last, head.Immediate)
}

func (o *Outer) recurse() api.Code {
	if o.Method {
		return api.Control
	}
	return o.Comma(o.open.XT)
}

func (o *Outer) exit() api.Code {
	if o.Method {
		return o.Compile("(exitm)")
	}
	return o.Compile("exit")
}

// makeNext makes a word with the next name.
func (o *Outer) makeNext(n int64, l ...int64) api.Code {
	name, e := o.Name()
	if e != api.OK {
		return e
	}
	_, e = o.Make(o.List, name, n, 0, l...)
	return e
}

func (o *Outer) constant() api.Code {
	n, e := o.D.Pop()
	if e != api.OK {
		return e
	}
	return o.makeNext(code.Constant, n)
}

// forward compiles a branch whose address isn't known yet, and opens a mark for the cell of that.
func (o *Outer) forward(name string, k control.Kind) api.Code {
	if e := o.Compile(name, 0); e != api.OK {
		return e
	}
	return o.Marks.Open(k, o.Here()-api.Cell)
}

// back closes a mark, and compiles a branch to it.
func (o *Outer) back(name string, k control.Kind) api.Code {
	to, e := o.Marks.Close(k)
	if e != api.OK {
		return e
	}
	return o.Compile(name, to)
}

func (o *Outer) otherwise() api.Code {
	at, e := o.Marks.Close(control.If)
	if e != api.OK {
		return e
	}
	if e := o.forward("branch", control.If); e != api.OK {
		return e
	}
	return o.SetCell(at, o.Here())
}

func (o *Outer) then() api.Code {
	at, e := o.Marks.Close(control.If)
	if e != api.OK {
		return e
	}
	return o.SetCell(at, o.Here())
}

func (o *Outer) do() api.Code {
	if e := o.Compile("(do)"); e != api.OK {
		return e
	}
	return o.Marks.Open(control.Do, o.Here())
}

func (o *Outer) repeat() api.Code {
	at, e := o.Marks.Close(control.While)
	if e != api.OK {
		return e
	}
	if e := o.back("branch", control.Begin); e != api.OK {
		return e
	}
	return o.SetCell(at, o.Here())
}

func (o *Outer) comment() api.Code {
	o.Src.Parse(')')
	return api.OK
}

func (o *Outer) skip() api.Code {
	o.Src.Skip()
	return api.OK
}

func (o *Outer) quote() api.Code {
	t, _ := o.Src.Parse('"')
	return o.text(t)
}

func (o *Outer) tell() api.Code {
	t, _ := o.Src.Parse('"')
	if !o.Compiling {
		o.Put(t)
		return api.OK
	}
	if e := o.text(t); e != api.OK {
		return e
	}
	return o.Compile("type")
}

// text puts bytes, past which a definition has to branch; where they are, and their number, are literals.
func (o *Outer) text(t string) api.Code {
	if o.Compiling {
		if e := o.forward("branch", control.If); e != api.OK {
			return e
		}
	}
	at := o.Here()
	if e := o.Chars(t); e != api.OK {
		return e
	}
	if e := o.Align(); e != api.OK {
		return e
	}
	if o.Compiling {
		if e := o.then(); e != api.OK {
			return e
		}
	}
	return o.Literal(at, int64(len(t)))
}

func (o *Outer) char() api.Code {
	w := o.Src.Word()
	if w == "" {
		return api.NoName
	}
	return o.Literal(int64(w[0]))
}

func (o *Outer) tick() api.Code {
	w, e := o.Find()
	if e != api.OK {
		return e
	}
	return o.Literal(w.XT)
}
