package oop

import (
	"fmt"
	"slices"
	"strings"
	"testing"

	"shed/api"
	"shed/class"
	"shed/code"
	"shed/head"
	"shed/iface"
	"shed/vm"
)

var plain = vm.Config{Dict: 16384, Data: 16, Return: 32, Heap: 1024, Slots: 8}

func made(t *testing.T) *Forth {
	t.Helper()
	f, e := New(plain, "")
	if e != api.OK || f == nil {
		t.Fatal(e)
	}
	f.Fuel = 100000
	return f
}

func is(t *testing.T, f *Forth, text string, want api.Code, out string, stack ...int64) {
	t.Helper()
	f.Out = ""
	if e := f.Text(text); e != want {
		t.Errorf("%s: %d; want %d", text, e, want)
	}
	if f.Out != out {
		t.Errorf("%s: the output is %q; want %q", text, f.Out, out)
	}
	if l := f.D.All(); !slices.Equal(l, stack) {
		t.Errorf("%s: D is %v; want %v", text, l, stack)
	}
}

func fresh(t *testing.T, text string, want api.Code, out string, stack ...int64) *Forth {
	t.Helper()
	f := made(t)
	is(t, f, text, want, out, stack...)
	return f
}

// fails is a text whose only code is this one.
func fails(t *testing.T, text string, want api.Code) *Forth {
	t.Helper()
	return fresh(t, text, want, fmt.Sprintf("?%d\n", want))
}

func cells(f *Forth, from, to int64) []int64 {
	var l []int64
	for ; from < to; from += 8 {
		n, _ := f.Cell(from)
		l = append(l, n)
	}
	return l
}

func word(t *testing.T, f *Forth, name string) head.Word {
	t.Helper()
	w, ok := head.Find(f.Mem, name, f.List)
	if !ok {
		t.Fatalf("no word %q", name)
	}
	return w
}

func value(t *testing.T, f *Forth, name string) int64 {
	t.Helper()
	n, _ := f.Cell(word(t, f, name).XT + 8)
	return n
}

const (
	counter = "class counter - ivar n method get n @ endm method add n +! endm method inc 1 n +! endm endclass\n"
	double  = "class double counter ivar k method add 2 * super add endm endclass\n"
)

func TestNew(t *testing.T) {
	f, e := New(plain, "some")
	if e != api.OK || f.In != "some" || f.Slots != 8 || !slices.Equal(f.Order, []int64{f.List}) {
		t.Error(e)
	}
	for _, c := range []struct {
		c    vm.Config
		want api.Code
	}{{vm.Config{}, api.Argument}, {vm.Config{Dict: 64, Heap: 64}, api.DictOver}, {vm.Config{Dict: 8192, Heap: 4}, api.Argument}} {
		if f, e := New(c.c, ""); f != nil || e != c.want {
			t.Error(c, e)
		}
	}
	fresh(t, ": sq dup * ; 5 sq .", api.OK, "25 ")
}

func TestExample(t *testing.T) {
	fresh(t, "class a - ivar x method get x @ endm endclass a new -> get .", api.OK, "0 ")
	fresh(t, "CLASS a - IVAR x METHOD Get X @ ENDM ENDCLASS A new -> gEt .", api.OK, "0 ")
}

func TestClasses(t *testing.T) {
	f := fresh(t, counter+double, api.OK, "")
	is(t, f, "counter new dup -> inc dup 5 swap -> add -> get .", api.OK, "6 ")
	is(t, f, "double new dup -> inc dup 5 swap -> add -> get .", api.OK, "11 ")
	is(t, f, "object double d 3 d -> add d -> get . d classof double = .", api.OK, "6 -1 ")
	is(t, f, ": test d dup -> inc -> get ; test .", api.OK, "7 ")
	is(t, f, "d -> nothing", api.NoMethod, "?-2049\n")
	is(t, f, "5 -> get", api.NoClass, "?-2048\n")
	is(t, f, "-> get", api.Under, "?-4\n")
	is(t, f, "n", api.Undefined, "?-13\n") // fields are words of methods alone
	is(t, f, "redefine counter get 100 endm d -> get . counter new -> get .", api.OK, "100 100 ")
	is(t, f, "redefine double get 200 endm d -> get . counter new -> get .", api.OK, "200 100 ")
	is(t, f, "redefine counter get n @ endm d -> get .", api.OK, "200 ")
	is(t, f, "redefine double get super get endm d -> get .", api.OK, "7 ")
	is(t, f, "redefine double all n @ k @ endm 4 d -> add d -> all", api.OK, "", 15, 0)
	l := class.All(f.Mem, f.Root)
	if len(l) != 2 || l[0].Size != 16 || l[1].Size != 24 || l[1].Parent != l[0].At || l[0].At != value(t, f, "counter") || l[1].At != value(t, f, "double") {
		t.Error(l)
	}
}

func TestWhatAClassPuts(t *testing.T) {
	f := made(t)
	here := f.Here()
	is(t, f, "class a -", api.OK, "")
	table := here
	at := table + 16 + 8*24
	wordAt := at + 40
	if l := cells(f, at, wordAt); !slices.Equal(l, []int64{class.Magic, 0, 8, table, 0}) {
		t.Error(l)
	}
	w := head.Words(f.Mem, f.List)[0]
	if w != (head.Word{At: wordAt, XT: wordAt + 24, Flags: head.Hidden, Name: "a"}) || !slices.Equal(cells(f, w.XT, f.Here()), []int64{code.Constant, at, 0}) {
		t.Error(w)
	}
	list := w.XT + 16
	if !slices.Equal(f.Order, []int64{list, f.List}) || f.Here() != list+8 {
		t.Error(f.Order)
	}
	is(t, f, "ivar X ivar y", api.OK, "")
	fields := head.Words(f.Mem, list)
	if len(fields) != 2 || fields[1].Name != "x" || !slices.Equal(cells(f, fields[1].XT, fields[1].XT+16), []int64{code.Field, 8}) ||
		!slices.Equal(cells(f, fields[0].XT, fields[0].XT+16), []int64{code.Field, 16}) {
		t.Error(fields)
	}
	xt := f.Here() + 8
	is(t, f, "1 c, method M x exit super m ; ", api.Control, "?-22\n")
	f = made(t)
	is(t, f, "class a -\nivar x ivar y\n1 c, method M x exit -> m super n endm", api.OK, "")
	c, _ := class.Read(f.Mem, at)
	if c.Size != 24 {
		t.Error(c)
	}
	want := []int64{code.Method, fields[1].XT, f.XT("(exitm)"), f.XT("(send)"), 1, f.XT("(super)"), 0, 2, f.XT("(exitm)")}
	if l := cells(f, xt, f.Here()); !slices.Equal(l, want) {
		t.Errorf("%v\n%v", l, want)
	}
	x, _, ok := class.Lookup(f.Mem, at, 1)
	if !ok || x.XT != xt || x.Class != at || f.Sels.Name(1) != "m" || f.Sels.Name(2) != "n" {
		t.Error(x, ok)
	}
	is(t, f, "endclass", api.OK, "")
	if w := word(t, f, "a"); w.Flags != 0 || !slices.Equal(f.Order, []int64{f.List}) {
		t.Error(w, f.Order)
	}
}

func TestOrder(t *testing.T) {
	f := made(t)
	is(t, f, "class a - ivar x endclass class b a ivar y endclass class c b", api.OK, "")
	if len(f.Order) != 4 || f.Order[3] != f.List {
		t.Error(f.Order)
	}
	is(t, f, "ivar x method own x endm method up y endm endclass", api.OK, "")
	is(t, f, "c new dup -> own over - . dup -> up swap - .", api.OK, "24 16 ")
	f = made(t)
	is(t, f, "class a - ivar x endclass class b - ivar x ivar y endclass redefine a f x y endm", api.Undefined, "?-13\n")
	is(t, f, "redefine b f x y endm b new -> f swap - .", api.OK, "8 ")
	is(t, f, "class c a : f x ; method g f endm endclass c new dup -> g swap - .", api.OK, "8 ")
	is(t, f, "class e - ivar drop method q drop endm endclass", api.OK, "")
	// A field stands ahead of a word with its name.
	is(t, f, "e new dup -> q swap - . 1 drop", api.OK, "8 ")
}

func TestRefusals(t *testing.T) {
	for _, word := range []string{"class", "redefine", "interface", "object"} {
		fails(t, "class a -\n"+word+" b", api.Control)
		fails(t, ": f "+word+" b", api.Control)
	}
	for _, word := range []string{"ivar", "method", "implements", "endclass"} {
		fails(t, word+" b", api.Control)
		fails(t, "class a -\n: f "+word+" b", api.Control)
		fails(t, "class a -\nmethod f "+word+" b", api.Control)
	}
	fails(t, "endm", api.Control)
	fails(t, ": f endm", api.Control)
	fails(t, "class a - endm", api.Control)
	fails(t, "class a - method f begin endm", api.Control)
	fails(t, "class a - method f ;", api.Control)
	fails(t, "class a - method f recurse", api.Control)
	fails(t, "super x", api.Only)
	fails(t, ": f super x", api.Only)
	fails(t, "class a - super x", api.Only)
	fails(t, "endinterface", api.Undefined)
}

func TestNames(t *testing.T) {
	long := strings.Repeat("x", 32)
	for _, text := range []string{
		"class", "class " + long + " -", "class a", "class a " + long, "class a - ivar", "class a - ivar " + long, "class a - method", "class a - method " + long,
		"redefine", counter + "redefine counter", counter + "redefine counter " + long, "class a - implements", "interface", "interface " + long + " endinterface",
		"interface i", "interface i a b", "interface i " + long + " endinterface", "->", "-> " + long, "::", counter + ":: counter", counter + ":: counter " + long,
		"class a - method m super", "class a - method m super " + long, "object", counter + "object counter", counter + "object counter " + long,
	} {
		fails(t, text, api.NoName)
	}
	for _, text := range []string{"class a b", "redefine b", "class a - implements b", ":: b", "object b", ": f :: b", "class a -\n: f :: a f"} {
		fails(t, text, api.Undefined)
	}
	for _, text := range []string{
		"class a dup", "redefine dup x", "object dup x", ":: dup x", "variable v class a v", "8 constant c class a c", "0 constant c object c x",
		"8 constant c :: c f", "8 constant c redefine c f", "-8 constant c :: c f", "class a - implements dup", "variable v class a - implements v", counter + "class a - implements counter",
	} {
		fails(t, text, api.NoClass)
	}
	fresh(t, counter+"counter constant c2 class d c2 endclass object c2 o o -> get", api.OK, "", 0)
	fresh(t, counter+"counter 8 + constant c2 class d c2", api.NoClass, "?-2048\n")
	fails(t, counter+"variable v counter v ! class d v", api.NoClass) // its code isn't Constant
	fails(t, counter+"variable v counter v ! 1003 ' v ! class d v nothing", api.Undefined)
}

func TestSelectorsFull(t *testing.T) {
	f := made(t)
	for f.Sels.Len() < 1024 {
		f.Sels.Put(fmt.Sprint("s", f.Sels.Len()))
	}
	is(t, f, counter, api.TableFull, "?-2051\n")
	is(t, f, "5 -> more", api.TableFull, "?-2051\n")
	is(t, f, "interface i more endinterface", api.TableFull, "?-2051\n")
	is(t, f, "class a - method s5 7 endm endclass a new -> s5", api.OK, "", 7)
}

func TestLists(t *testing.T) {
	// Twice at one address: each one's list counts, though here both are at one address, too.
	f := made(t)
	is(t, f, "24 @ here class a - ivar x endclass here - allot 24 ! class b - ivar y ivar x method f x endm method g y endm", api.OK, "")
	if len(f.Order) != 3 {
		t.Error(f.Order)
	}
	is(t, f, "endclass b new dup -> f over - . dup -> g swap - .", api.OK, "16 8 ")
	// After a code the open class has no fields, and the one that comes has its own.
	f = made(t)
	is(t, f, "class a - ivar old nothing", api.Undefined, "?-13\n")
	is(t, f, "class a - ivar new1", api.OK, "")
	if len(f.Order) != 2 {
		t.Error(f.Order)
	}
	is(t, f, "method f old", api.Undefined, "?-13\n")
	// Parents that go round end.
	f = made(t)
	is(t, f, "class a - endclass class b a endclass b a 8 + ! class c b", api.OK, "")
	if len(f.Order) != 4 {
		t.Error(f.Order)
	}
	f = made(t)
	is(t, f, "class a - endclass class b a endclass b a 8 + ! redefine b x", api.OK, "")
	if len(f.Order) != 3 {
		t.Error(f.Order)
	}
	f = made(t)
	is(t, f, "class a - ivar x endclass class b a endclass 7 a ! redefine b f x", api.Undefined, "?-13\n")
	f = made(t)
	is(t, f, "class a - ivar x endclass class b a endclass class c - endclass 7 a ! redefine b f x", api.Undefined, "?-13\n")
}

func TestEarly(t *testing.T) {
	f := fresh(t, counter+double+"object double d", api.OK, "")
	is(t, f, "5 d :: counter add d :: double get .", api.OK, "5 ")
	is(t, f, ": early d :: double add ; : late d -> add ; 1 early 1 late d -> get .", api.OK, "9 ")
	is(t, f, "redefine double add drop endm 1 early d -> get . 1 late d -> get .", api.OK, "11 11 ")
	is(t, f, "d :: double nothing", api.NoMethod, "?-2049\n")
	is(t, f, ": f :: counter nothing", api.NoMethod, "?-2049\n")
	if f.Sels.Find("nothing") != 0 {
		t.Error(":: puts no selector")
	}
	is(t, f, "class other - method nothing endm endclass d :: counter nothing", api.NoMethod, "?-2049\n")
	here := f.Here()
	w, _, _ := class.Lookup(f.Mem, value(t, f, "counter"), f.Sels.Find("get"))
	is(t, f, "d :: counter get", api.OK, "", 11)
	if l := cells(f, here, f.Here()); !slices.Equal(l, []int64{code.Colon, f.XT("(call)"), w.XT, f.XT("exit")}) {
		t.Error(l)
	}
	here = f.Here()
	is(t, f, "drop 1 c, d -> get", api.OK, "", 11)
	if l := cells(f, here+8, f.Here()); !slices.Equal(l, []int64{code.Colon, f.XT("(send)"), f.Sels.Find("get"), f.XT("exit")}) {
		t.Error(l)
	}
	here = f.Here()
	is(t, f, "5 -> get", api.NoClass, "?-2048\n")
	if f.Here() != here+32 {
		t.Error("what is run stays", f.Here()-here)
	}
	f.Allot(plain.Dict - f.Here() - 24)
	is(t, f, "d -> get", api.DictOver, "?-8\n")
}

func TestSuper(t *testing.T) {
	f := made(t)
	is(t, f, "class a - method f 1 endm endclass class b a method f super f 2 endm endclass class c b method f super f 3 endm endclass", api.OK, "")
	is(t, f, "c new -> f", api.OK, "", 1, 2, 3)
	is(t, f, "drop drop drop redefine a f 9 endm c new -> f", api.OK, "", 9, 2, 3)
	is(t, f, "drop drop drop redefine a g super g endm c new -> g", api.NoMethod, "?-2049\n")
	is(t, f, "redefine b h self -> f super f endm c new -> h", api.OK, "", 9, 2, 3, 9)
	// The parent is that of the class of the method, not of the object.
	is(t, f, "drop drop drop drop class e c endclass e new -> f", api.OK, "", 9, 2, 3)
}

func TestInterfaces(t *testing.T) {
	f := made(t)
	here := f.Here()
	is(t, f, "interface Shape area NAME\n area endinterface", api.OK, "")
	if l := cells(f, here, here+32); !slices.Equal(l, []int64{3, 1, 2, 1}) {
		t.Error(l)
	}
	if sels, ok := iface.Sels(f.Mem, value(t, f, "shape")); !slices.Equal(sels, []int64{1, 2, 1}) || !ok {
		t.Error(sels)
	}
	is(t, f, "shape", api.OK, "", here)
	is(t, f, "drop interface none EndInterface", api.OK, "")
	is(t, f, "class a - implements shape method area 1 endm method name 2 endm endclass a new -> area", api.OK, "", 1)
	is(t, f, "drop class b - implements shape method area 1 endm endclass", api.Conform, "?-2050\n")
	is(t, f, "b", api.Undefined, "?-13\n")
	is(t, f, "class b a implements shape implements none endclass b new -> name", api.OK, "", 2)
	is(t, f, "drop class d - implements none implements shape endclass", api.Conform, "?-2050\n")
	is(t, f, "class d - implements dup", api.NoClass, "?-2048\n")
	if len(class.All(f.Mem, f.Root)) != 2 {
		t.Error("a class that lacks something stays")
	}
	is(t, f, "0 shape 8 + ! class d a implements shape endclass", api.Conform, "?-2050\n")
	is(t, f, "-1 shape ! class d a implements shape endclass", api.Argument, "?-256\n")
	// What it must understand is of this class alone.
	is(t, f, "class d - endclass", api.OK, "")
	is(t, f, "interface kept one two", api.NoName, "?-16\n")
	if f.Sels.Find("two") == 0 || f.Sels.Find("kept") != 0 {
		t.Error("a selector stays, the interface's name is none")
	}
	is(t, f, "interface "+strings.Repeat("q ", 1026)+"endinterface", api.Argument, "?-256\n")
}

// A word with the XT of an interface is one, whatever was made there since.
func TestAnInterfacesXT(t *testing.T) {
	f := made(t)
	is(t, f, "interface i endinterface", api.OK, "")
	xt := word(t, f, "i").XT
	is(t, f, "-16 allot -24 allot variable j class a - implements j endclass", api.OK, "")
	if x := word(t, f, "j").XT; x != xt {
		t.Error(x, xt)
	}
	is(t, f, "variable k class b - implements k endclass", api.NoClass, "?-2048\n")
}

func TestAfterACode(t *testing.T) {
	for _, text := range []string{
		"class a - nothing", "class a counter nothing", "class a -\nivar x method f 1 nothing", "class a - : f 1 ; nothing", "class a - variable x method f endm nothing",
		"redefine counter f nothing", "redefine counter f begin endm", "class a - method f then", "class a counter endclasss",
		"redefine counter get 1 1 1 1 begin", "class a - 1 c, method get endm nothing", "class a - counter new -> nothing",
	} {
		f := made(t)
		is(t, f, counter, api.OK, "")
		here, words, root := f.Here(), len(head.Words(f.Mem, f.List)), value(t, f, "counter")
		before, _ := f.Machine.Text(0, here)
		f.Text(text + "\n nothing")
		if f.Here() != here || len(head.Words(f.Mem, f.List)) != words || !slices.Equal(f.Order, []int64{f.List}) {
			t.Errorf("%s: HERE is %d, not %d", text, f.Here(), here)
		}
		if n, _ := f.Cell(f.Root); n != root {
			t.Errorf("%s: the root's cell is %d", text, n)
		}
		if after, _ := f.Machine.Text(0, here); after != before {
			t.Errorf("%s: what was there ahead changed", text)
		}
		is(t, f, "class a counter ivar y endclass object a o o -> inc o -> get .", api.OK, "1 ")
	}
	f := made(t)
	is(t, f, counter+"redefine counter get 5 endm nothing", api.Undefined, "?-13\n")
	is(t, f, "counter new -> get", api.OK, "", 5) // no state is saved any more
	is(t, f, "drop redefine counter get n @ endm", api.OK, "")
	if !slices.Equal(f.Order, []int64{f.List}) {
		t.Error(f.Order)
	}
	here := f.Here()
	is(t, f, "variable v nothing", api.Undefined, "?-13\n")
	if f.Here() != here+40 {
		t.Error("a state was saved")
	}
	is(t, f, "class a - endclass nothing", api.Undefined, "?-13\n")
	is(t, f, "a new drop", api.OK, "")
	is(t, f, "nothing\nclass b - ivar x nothing\nclass b - ivar x endclass b new drop", api.Undefined, "?-13\n?-13\n")
}

func TestTablesFull(t *testing.T) {
	f := made(t)
	f.Slots = 2
	is(t, f, "class a - method x 1 endm method y 2 endm endclass class b a endclass", api.OK, "")
	here := f.Here()
	is(t, f, "redefine a z 3 endm", api.TableFull, "?-2051\n")
	if f.Here() != here {
		t.Error(f.Here())
	}
	is(t, f, "redefine a x 4 endm b new -> x b new -> y", api.OK, "", 4, 2)
	is(t, f, "drop drop class c a method z 3 endm", api.TableFull, "?-2051\n")
	is(t, f, "c", api.Undefined, "?-13\n")
	f.Slots = 0
	is(t, f, "class c -", api.Argument, "?-256\n")
	is(t, f, "class c a endclass c new -> x", api.OK, "", 4)
	if len(class.All(f.Mem, f.Root)) != 3 {
		t.Error(class.All(f.Mem, f.Root))
	}
}

func TestRoom(t *testing.T) {
	f := made(t)
	is(t, f, counter, api.OK, "")
	here, root := f.Here(), value(t, f, "counter")
	for n := range int64(60) {
		f.Back(here)
		f.Allot(plain.Dict - here - 8*n)
		at := f.Here()
		e := f.Text("class a - ivar x method f x @ endm endclass")
		if e == api.OK {
			t.Fatal("there was room", n)
		}
		r, _ := f.Cell(f.Root)
		if e != api.DictOver || f.Here() != at || r != root || len(f.Order) != 1 {
			t.Fatal(n, e, f.Here()-at, r)
		}
		if n > 36 {
			break
		}
	}
	f.Back(here)
	f.Allot(plain.Dict - here - 288) // enough for all but the list
	is(t, f, "class a -", api.DictOver, "?-8\n")
	f.Back(here)
	f.Allot(plain.Dict - here - 16)
	is(t, f, "object counter o", api.DictOver, "?-8\n")
	if f.Here() != plain.Dict { // the object was made ahead of its word, and no state was saved
		t.Error(f.Here())
	}
	f.Back(plain.Dict - 16)
	is(t, f, "interface i a b endinterface", api.DictOver, "?-8\n")
	if f.Here() != plain.Dict-16 {
		t.Error(f.Here())
	}
	f.Back(here)
	f.Allot(plain.Dict - here - 32)
	is(t, f, "interface i a b endinterface", api.DictOver, "?-8\n")
	if f.Here() != plain.Dict-8 { // the interface was made ahead of its word, too
		t.Error(f.Here())
	}
	f.Back(here)
	is(t, f, "class big - ivar a ivar b ivar c ivar d ivar e ivar f ivar g endclass", api.OK, "")
	f.Allot(plain.Dict - f.Here() - 56)
	is(t, f, "object big o", api.DictOver, "?-8\n")
	is(t, f, "o", api.Undefined, "?-13\n")
	f = made(t)
	is(t, f, "class a - -1 8 @ 16 + ! ivar x", api.Argument, "?-256\n")
}

// A message enters the method that was set last in the object's class, or in the nearest one above.
func TestLateAndEarly(t *testing.T) {
	seed := uint32(11)
	next := func(n int) int {
		seed = seed*1664525 + 1013904223
		return int(seed>>10) % n
	}
	for range 40 {
		f, _ := New(vm.Config{Dict: 1 << 17, Data: 16, Return: 64, Heap: 4096, Slots: 8}, "")
		f.Fuel = 1 << 20
		parents := []int{}
		own := map[[2]int]int{}
		find := func(c, sel int) (int, bool) {
			for ; c >= 0; c = parents[c] {
				if n, ok := own[[2]int{c, sel}]; ok {
					return n, true
				}
			}
			return 0, false
		}
		for i := range 60 {
			if len(parents) == 0 || next(5) == 0 && len(parents) < 8 {
				parent, name := -1, "-"
				if len(parents) > 0 && next(4) > 0 {
					parent = next(len(parents))
					name = fmt.Sprint("c", parent)
				}
				c := len(parents)
				parents = append(parents, parent)
				text := fmt.Sprintf("class c%d %s ", c, name)
				for sel := range 4 {
					if next(3) == 0 {
						own[[2]int{c, sel}] = i*10 + sel
						text += fmt.Sprintf("method m%d %d endm ", sel, i*10+sel)
					}
				}
				is(t, f, text+fmt.Sprintf("endclass object c%d o%d", c, c), api.OK, "")
				continue
			}
			c, sel := next(len(parents)), next(4)
			own[[2]int{c, sel}] = i * 10
			is(t, f, fmt.Sprintf("redefine c%d m%d %d endm", c, sel, i*10), api.OK, "")
			for c := range parents {
				for sel := range 4 {
					n, ok := find(c, sel)
					if !ok {
						is(t, f, fmt.Sprintf("o%d -> m%d", c, sel), api.NoMethod, "?-2049\n")
						is(t, f, fmt.Sprintf("o%d :: c%d m%d", c, c, sel), api.NoMethod, "?-2049\n")
						continue
					}
					is(t, f, fmt.Sprintf("o%d -> m%d drop o%d -> m%d", c, sel, c, sel), api.OK, "", int64(n))
					is(t, f, fmt.Sprintf("drop o%d :: c%d m%d", c, c, sel), api.OK, "", int64(n))
					is(t, f, "drop", api.OK, "")
				}
			}
			f.Fuel = 1 << 20
			if f.Here() > 1<<16 {
				break
			}
		}
	}
}
