package oop

import (
	"shed/api"
	"shed/class"
	"shed/code"
	"shed/head"
	"shed/iface"
	"shed/intern"
	"shed/object"
)

// table returns the words, each with what it refuses.
func table() map[string]func(*Forth) api.Code {
	words := map[string]func(*Forth) api.Code{
		"endm":  (*Forth).endMethod,
		"->":    (*Forth).sendLate,
		"::":    (*Forth).sendEarly,
		"super": (*Forth).super,
	}
	for name, do := range outside() {
		words[name] = func(f *Forth) api.Code {
			if f.open != nil || f.Compiling {
				return api.Control
			}
			return do(f)
		}
	}
	for name, do := range inside() {
		words[name] = func(f *Forth) api.Code {
			if f.open == nil || f.Compiling {
				return api.Control
			}
			return do(f)
		}
	}
	return words
}

// outside returns the words that are refused where a class is open.
func outside() map[string]func(*Forth) api.Code {
	return map[string]func(*Forth) api.Code{
		"class":     (*Forth).class,
		"redefine":  (*Forth).redefine,
		"interface": (*Forth).iface,
		"object":    (*Forth).object,
	}
}

// inside returns the words that are refused where no class is open.
func inside() map[string]func(*Forth) api.Code {
	return map[string]func(*Forth) api.Code{
		"ivar":       (*Forth).ivar,
		"method":     (*Forth).method,
		"implements": (*Forth).implements,
		"endclass":   (*Forth).endClass,
	}
}

// class opens a class.
func (f *Forth) class() api.Code {
	name, e := f.Name()
	if e != api.OK {
		return e
	}
	parent, e := f.parent()
	if e != api.OK {
		return e
	}
	f.Keep()
	before, _ := f.Cell(f.Root)
	at, e := class.New(f.Space, f.Root, parent, f.Slots)
	if e != api.OK {
		return e
	}
	f.open = &opened{at: at, before: before}
	if f.open.word, e = f.Make(f.List, name, code.Constant, head.Hidden, at); e != api.OK {
		return e
	}
	list, e := head.List(f.Space)
	if e != api.OK {
		return e
	}
	f.open.list = list
	f.fields[owner{at, f.made(at)}] = list
	f.Order = f.lists(at)
	return api.OK
}

// ivar gives the open class a field.
func (f *Forth) ivar() api.Code {
	name, e := f.Name()
	if e != api.OK {
		return e
	}
	offset, e := class.Grow(f.Mem, f.open.at, api.Cell)
	if e != api.OK {
		return e
	}
	_, e = f.Make(f.open.list, name, code.Field, 0, offset)
	return e
}

// method begins a method of the open class.
func (f *Forth) method() api.Code {
	return f.begin(f.open.at)
}

// redefine begins a method of a class that isn't open.
func (f *Forth) redefine() api.Code {
	at, e := f.classWord()
	if e != api.OK {
		return e
	}
	return f.begin(at)
}

// begin begins a method of a class.
func (f *Forth) begin(at int64) api.Code {
	sel, e := f.selector()
	if e != api.OK {
		return e
	}
	f.Keep()
	if e := f.Align(); e != api.OK {
		return e
	}
	f.making = method{class: at, sel: sel, xt: f.Here()}
	f.Order = f.lists(at)
	f.Start(true)
	return f.Comma(code.Method)
}

// endMethod gives a class the method that was compiled.
func (f *Forth) endMethod() api.Code {
	if !f.Method {
		return api.Control
	}
	if e := f.Stop(); e != api.OK {
		return e
	}
	if e := f.Compile("(exitm)"); e != api.OK {
		return e
	}
	if e := class.Set(f.Mem, f.Root, f.making.class, f.making.sel, f.making.xt); e != api.OK {
		return e
	}
	if f.open == nil {
		f.Order = f.base()
		f.Kept()
	}
	return api.OK
}

// implements reads an interface that the open class must understand.
func (f *Forth) implements() api.Code {
	w, e := f.Find()
	if e != api.OK {
		return e
	}
	at, ok := f.ifaces[w.XT]
	if !ok {
		return api.NoClass
	}
	f.open.must = append(f.open.must, at)
	return api.OK
}

// endClass closes the open class.
func (f *Forth) endClass() api.Code {
	for _, at := range f.open.must {
		if _, e := iface.Missing(f.Mem, at, f.open.at); e != api.OK {
			return e
		}
	}
	head.Mark(f.Mem, f.open.word, 0)
	f.Order = f.base()
	f.open = nil
	f.Kept()
	return api.OK
}

// iface makes an interface, and its word.
func (f *Forth) iface() api.Code {
	name, e := f.Name()
	if e != api.OK {
		return e
	}
	sels, e := f.selectors()
	if e != api.OK {
		return e
	}
	at, e := iface.New(f.Space, sels...)
	if e != api.OK {
		return e
	}
	w, e := f.Make(f.List, name, code.Constant, 0, at)
	if e != api.OK {
		return e
	}
	f.ifaces[w.XT] = at
	return api.OK
}

// selectors reads the names of an interface.
func (f *Forth) selectors() ([]int64, api.Code) {
	var sels []int64
	for {
		name, e := f.Name()
		if e != api.OK {
			return nil, e
		}
		if intern.Lower(name) == "endinterface" {
			return sels, api.OK
		}
		sel, e := f.Sels.Put(name)
		if e != api.OK {
			return nil, e
		}
		sels = append(sels, sel)
	}
}

// object makes an object in the dictionary, and its word.
func (f *Forth) object() api.Code {
	c, e := f.classWord()
	if e != api.OK {
		return e
	}
	name, e := f.Name()
	if e != api.OK {
		return e
	}
	at, e := object.Dict(f.Space, c)
	if e != api.OK {
		return e
	}
	_, e = f.Make(f.List, name, code.Constant, 0, at)
	return e
}

// sendLate sends a message whose method is looked up when it is sent.
func (f *Forth) sendLate() api.Code {
	sel, e := f.selector()
	if e != api.OK {
		return e
	}
	return f.do("(send)", sel)
}

// sendEarly sends a message whose method is looked up now.
func (f *Forth) sendEarly() api.Code {
	c, e := f.classWord()
	if e != api.OK {
		return e
	}
	name, e := f.Name()
	if e != api.OK {
		return e
	}
	x, _, ok := class.Lookup(f.Mem, c, f.Sels.Find(name))
	if !ok {
		return api.NoMethod
	}
	return f.do("(call)", x.XT)
}

// do compiles a primitive, or runs it in a definition without a name.
func (f *Forth) do(name string, n int64) api.Code {
	if f.Compiling {
		return f.Compile(name, n)
	}
	if e := f.Align(); e != api.OK {
		return e
	}
	xt := f.Here()
	if e := f.Comma(code.Colon); e != api.OK {
		return e
	}
	if e := f.Compile(name, n); e != api.OK {
		return e
	}
	if e := f.Compile("exit"); e != api.OK {
		return e
	}
	return f.Run(xt)
}

// super compiles a message that is looked up from the parent on.
func (f *Forth) super() api.Code {
	if !f.Compiling || !f.Method {
		return api.Only
	}
	sel, e := f.selector()
	if e != api.OK {
		return e
	}
	parent, e := f.Cell(f.making.class + api.Cell)
	if e != api.OK {
		return e
	}
	return f.Compile("(super)", parent, sel)
}
