package outer

import (
	"fmt"
	"slices"
	"strings"
	"testing"

	"shed/api"
	"shed/code"
	"shed/control"
	"shed/head"
	"shed/vm"
)

func made(t *testing.T) *Outer {
	t.Helper()
	m, e := vm.New(vm.Config{Dict: 8192, Data: 16, Return: 32, Heap: 64, Slots: 4}, "")
	if e != api.OK {
		t.Fatal(e)
	}
	o := New(m)
	if o == nil {
		t.Fatal("New")
	}
	m.Fuel = 10000
	return o
}

// is reads a text, and holds what comes of it against what should.
func is(t *testing.T, o *Outer, text string, want api.Code, out string, stack ...int64) {
	t.Helper()
	o.Out = ""
	if e := o.Text(text); e != want {
		t.Errorf("%s: %d; want %d", text, e, want)
	}
	if o.Out != out {
		t.Errorf("%s: the output is %q; want %q", text, o.Out, out)
	}
	if l := o.D.All(); !slices.Equal(l, stack) {
		t.Errorf("%s: D is %v; want %v", text, l, stack)
	}
}

// fresh is the same with a new reader.
func fresh(t *testing.T, text string, want api.Code, out string, stack ...int64) *Outer {
	t.Helper()
	o := made(t)
	is(t, o, text, want, out, stack...)
	return o
}

func cells(o *Outer, from, to int64) []int64 {
	var l []int64
	for ; from < to; from += 8 {
		n, _ := o.Cell(from)
		l = append(l, n)
	}
	return l
}

func TestNew(t *testing.T) {
	o := made(t)
	if !slices.Equal(o.Order, []int64{o.List}) || o.Compiling || o.Method || !o.Marks.Closed() || o.Src.Rest() != "" {
		t.Error("a new reader")
	}
	for _, name := range code.Names() {
		w, _ := head.Find(o.Mem, name, o.List)
		if o.XT(name) != w.XT || w.XT == 0 {
			t.Errorf("XT(%q): %d", name, o.XT(name))
		}
	}
	if o.XT("base") != 0 || o.XT("if") != 0 || o.XT("") != 0 {
		t.Error("XT of what is no primitive")
	}
	is(t, o, "variable lit : dup 5 ; : f 7 dup ; f", api.OK, "", 7, 5)
	// A reader that comes later finds the primitives, not the words that have their names.
	if p := New(o.Machine); p.XT("lit") != o.XT("lit") || p.XT("dup") != o.XT("dup") {
		t.Error(p.XT("lit"), p.XT("dup"))
	}
	if New(nil) != nil {
		t.Error("a nil machine")
	}
}

func TestInterpreting(t *testing.T) {
	fresh(t, "", api.OK, "")
	fresh(t, " \n\t ", api.OK, "")
	fresh(t, "1 2 + .", api.OK, "3 ")
	fresh(t, "1 DUP Swap", api.OK, "", 1, 1)
	fresh(t, "$ff -7 %101 'A' 'a' #12", api.OK, "", 255, -7, 5, 65, 97, 12)
	fresh(t, "16 base ! ff 1F #31 -a", api.OK, "", 255, 31, 31, -10)
	fresh(t, "nothing", api.Undefined, "?-13\n")
	fresh(t, "1 nothing 2 3\n 4 5 .", api.Undefined, "?-13\n5 ", 4)
	fresh(t, "1 0 / 2\n3 drop drop 4\n5", api.Under, "?-10\n?-4\n", 5)
	fresh(t, "7 throw 1\n0 throw 2", 7, "?7\n", 2)
	fresh(t, "nothing", api.Undefined, "?-13\n")
	fresh(t, "nothing\n", api.Undefined, "?-13\n")
	fresh(t, "5 bye 6 . nothing", api.OK, "", 5)
	fresh(t, "99 base ! 1", api.Undefined, "?-13\n")
	fresh(t, "1 base ! 'x' $10", api.OK, "", 120, 16)
	fresh(t, ": b bye nothing ; b", api.Undefined, "?-13\n")
	o := fresh(t, "bye", api.OK, "")
	is(t, o, "1 2 nothing", api.OK, "")
}

func TestFuel(t *testing.T) {
	for fuel, want := range map[int64]string{100: "3 ", 6: "3 ", 5: "?-2053\n", 4: "?-2053\n", 3: "?-2053\n", 1: "?-2053\n", 0: "?-2053\n", -1: "?-2053\n"} {
		o := made(t)
		o.Fuel = fuel
		e := o.Text("1 2 + .\n5")
		if fuel == 100 && (e != api.OK || o.Fuel != 93) {
			t.Error(e, o.Fuel)
		}
		if !strings.HasPrefix(o.Out, want) || fuel < 6 && (e != api.Fuel || o.D.Depth() != 0) {
			t.Errorf("with %d: %d, %q", fuel, e, o.Out)
		}
	}
	o := made(t)
	o.Fuel = 1
	is(t, o, "5", api.OK, "", 5)
	is(t, o, "6", api.Fuel, "?-2053\n")
	o = made(t)
	o.Fuel = 6
	is(t, o, "1 2 + .", api.OK, "3 ")
	is(t, o, "", api.OK, "")
	is(t, o, "1 1\n2", api.Fuel, "?-2053\n")
	o = made(t)
	is(t, o, "-2053 throw 1\n2 .", api.Fuel, "?-2053\n") // for Fuel, the reading ends
	is(t, o, ": f begin again ; f\n1 .", api.Fuel, "?-2053\n")
}

func TestInnerWords(t *testing.T) {
	inner := []string{"i", "j", "unloop", ">r", "r>", "r@"}
	bare := []string{"lit", "branch", "0branch", "(loop)", "(+loop)", "(send)", "(call)", "(super)", "(do)", "(caught)", "(exitm)"}
	for _, name := range append(inner, bare...) {
		fresh(t, "1 "+name, api.Only, "?-14\n")
	}
	for _, name := range bare {
		fresh(t, ": f "+name+" ; 1", api.Only, "?-14\n")
	}
	for _, name := range inner {
		fresh(t, ": f "+name+" ; 1", api.OK, "", 1)
	}
	// A word is the primitive whose number is in the cell of its code.
	fresh(t, "variable x 1 ' x ! x", api.Only, "?-14\n")
	fresh(t, "variable x 1 ' x ! : f x ;", api.Only, "?-14\n")
	fresh(t, "variable x 2 ' x ! : f x ;", api.Only, "?-14\n")
	fresh(t, "variable x 11 ' x ! 5 x : f x ; f", api.OK, "", 5, 5, 5)
	fresh(t, "5 exit", api.Only, "?-14\n")
}

func TestDefinitions(t *testing.T) {
	fresh(t, ": sq dup * ; 5 sq .", api.OK, "25 ")
	fresh(t, ": SQ dup * ; 5 sQ .", api.OK, "25 ")
	fresh(t, ": a 1 ; : a a 2 ; a", api.OK, "", 1, 2) // the earlier one, until it is there
	fresh(t, ": fac dup 2 < if drop 1 exit then dup 1- recurse * ; 5 fac .", api.OK, "120 ")
	fresh(t, ": a b ;", api.Undefined, "?-13\n")
	fresh(t, ": a 1\n2 ;\na", api.OK, "", 1, 2)
	o := made(t)
	from := o.Here()
	is(t, o, ": A 7 dup ; ", api.OK, "")
	w, ok := head.Find(o.Mem, "a", o.List)
	if !ok || w.At != from || w.Flags != 0 {
		t.Error(w, ok)
	}
	if l := cells(o, w.XT, o.Here()); !slices.Equal(l, []int64{code.Colon, o.XT("lit"), 7, o.XT("dup"), o.XT("exit")}) {
		t.Error(l)
	}
	fresh(t, ": x", api.OK, "")
	o = fresh(t, ": x 1", api.OK, "")
	if !o.Compiling || o.Method {
		t.Error("it goes on with the next text")
	}
	is(t, o, "2 ; x", api.OK, "", 1, 2)
	fresh(t, ": x x ;", api.Undefined, "?-13\n")
	fresh(t, ":", api.NoName, "?-16\n")
	fresh(t, ": "+strings.Repeat("x", 32)+" 1 ;", api.NoName, "?-16\n")
	fresh(t, ": "+strings.Repeat("x", 31)+" 1 ; "+strings.Repeat("X", 31), api.OK, "", 1)
	fresh(t, ": a : b ;", api.Control, "?-22\n")
	fresh(t, ";", api.Control, "?-22\n")
	fresh(t, ": a if ;", api.Control, "?-22\n")
	fresh(t, ": a immediate ;", api.Control, "?-22\n")
	fresh(t, "recurse", api.Only, "?-14\n")
}

func TestImmediate(t *testing.T) {
	fresh(t, ": a 5 ; immediate : b a ; b a", api.OK, "", 5, 5)
	fresh(t, "immediate", api.Control, "?-22\n")
	fresh(t, "variable x immediate : b x ; x = b", api.OK, "", -1) // x is run, not compiled
	fresh(t, "5 constant c immediate : b c ; b", api.OK, "", 5)
	o := fresh(t, ": a 5 ; immediate immediate", api.OK, "")
	if w, _ := head.Find(o.Mem, "a", o.List); w.Flags != head.Immediate {
		t.Error(w)
	}
	is(t, o, ": b nothing", api.Undefined, "?-13\n")
	is(t, o, "immediate", api.Control, "?-22\n") // no word is LAST
	o = fresh(t, ": a 5 ; nothing", api.Undefined, "?-13\n")
	is(t, o, "immediate : b a ;", api.OK, "", 5) // without a saved state LAST stays
	fresh(t, "variable y 11 ' y ! immediate 4 : b y ;", api.OK, "", 4, 4)
	fresh(t, "variable y 11 ' y ! immediate 4 : b y ; b", api.OK, "", 4, 4)
	fresh(t, "variable y 10 ' y ! immediate : b y ;", api.Only, "?-14\n") // i is Inner, so it isn't run
}

func TestVariablesAndConstants(t *testing.T) {
	fresh(t, "variable x 5 x ! x @ variable y y @", api.OK, "", 5, 0)
	fresh(t, "7 constant seven seven Seven", api.OK, "", 7, 7)
	fresh(t, "create t 1 , 2 , t @ t cell+ @", api.OK, "", 1, 2)
	fresh(t, "constant", api.Under, "?-4\n")
	fresh(t, "1 constant", api.NoName, "?-16\n")
	for _, word := range []string{"variable", "create", "5 constant"} {
		fresh(t, word, api.NoName, "?-16\n")
		fresh(t, word+" "+strings.Repeat("x", 32), api.NoName, "?-16\n")
	}
	for _, word := range []string{"variable", "create", "constant"} {
		fresh(t, ": a "+word+" x ;", api.Control, "?-22\n")
	}
	o := made(t)
	here := o.Here()
	is(t, o, "create x", api.OK, "")
	if o.Here() != here+32 {
		t.Error(o.Here())
	}
	is(t, o, "variable y", api.OK, "")
	if o.Here() != here+32+40 {
		t.Error(o.Here())
	}
}

func TestStructures(t *testing.T) {
	fresh(t, ": a if 1 then 2 ; 0 a 5 a", api.OK, "", 2, 1, 2)
	fresh(t, ": a if 1 else 2 then 3 ; 0 a 5 a", api.OK, "", 2, 3, 1, 3)
	fresh(t, ": a begin 1- dup while dup . repeat drop 9 ; 4 a", api.OK, "3 2 1 ", 9)
	fresh(t, ": a begin dup . 1- dup 0= until ; 3 a", api.OK, "3 2 1 ", 0)
	fresh(t, ": a begin dup . 1- dup 0= if exit then again ; 3 a", api.OK, "3 2 1 ", 0)
	fresh(t, ": a 3 0 do i . loop ; a", api.OK, "0 1 2 ")
	fresh(t, ": a 10 0 do i . 4 +loop ; a", api.OK, "0 4 8 ")
	fresh(t, ": a 2 0 do 2 0 do j . i . loop loop ; a", api.OK, "0 0 0 1 1 0 1 1 ")
	fresh(t, ": a 5 0 do i dup 2 = if unloop exit then . loop ; a", api.OK, "0 1 ", 2)
	for _, word := range []string{"if", "while", "else", "then", "begin", "do", "again", "until", "repeat", "loop", "+loop", "exit", "recurse"} {
		fresh(t, word, api.Only, "?-14\n")
	}
	for _, text := range []string{
		"then", "else", "again", "until", "repeat", "loop", "+loop", "begin then", "if loop", "do until", "begin repeat", "while repeat",
		"begin if repeat", "begin while until", "if while repeat", "do again", "begin ;", "do ;", "begin while ;", "if else else then ; then ;",
	} {
		want := api.Control
		if strings.HasPrefix(text, "if else else") {
			want = api.Only
			text = "if else else then ; then"
			fresh(t, ": a "+text, want, "?-14\n")
			continue
		}
		o := fresh(t, ": a "+text, want, "?-22\n")
		if o.Compiling || !o.Marks.Closed() {
			t.Error(text, "leaves something open")
		}
	}
	fresh(t, ": a "+strings.Repeat("begin ", 100)+strings.Repeat("dup until ", 100)+"; 1 a", api.OK, "", 1)
	fresh(t, ": a "+strings.Repeat("begin ", 101), api.Control, "?-22\n")
	fresh(t, ": a "+strings.Repeat("begin ", 100)+"s\" x\"", api.Control, "?-22\n")
}

func TestWhatStructuresCompile(t *testing.T) {
	o := made(t)
	is(t, o, ": a if else then begin while repeat begin until begin again do loop do +loop exit recurse ;", api.OK, "")
	w, _ := head.Find(o.Mem, "a", o.List)
	a := w.XT
	want := []int64{
		code.Colon, o.XT("0branch"), a + 40, o.XT("branch"), a + 40,
		o.XT("0branch"), a + 72, o.XT("branch"), a + 40,
		o.XT("0branch"), a + 72, o.XT("branch"), a + 88,
		o.XT("(do)"), o.XT("(loop)"), a + 112, o.XT("(do)"), o.XT("(+loop)"), a + 136,
		o.XT("exit"), a, o.XT("exit"),
	}
	if l := cells(o, a, o.Here()); !slices.Equal(l, want) {
		t.Errorf("%v\n%v", l, want)
	}
}

func TestMarksAreExported(t *testing.T) {
	o := made(t)
	is(t, o, ": a if begin", api.OK, "")
	if len(o.Marks) != 2 || o.Marks[0].Kind != control.If || o.Marks[0].At != o.Here()-8 || o.Marks[1] != (control.Mark{Kind: control.Begin, At: o.Here()}) {
		t.Error(o.Marks)
	}
}

func TestTexts(t *testing.T) {
	fresh(t, "1 ( 2 3 ) 4", api.OK, "", 1, 4)
	fresh(t, "1 ( 2 3 \n 4", api.OK, "", 1, 4)
	fresh(t, "1 \\ 2 3 \n 4", api.OK, "", 1, 4)
	fresh(t, "1 \\\n 4 \\", api.OK, "", 1, 4)
	fresh(t, ": a 1 ( 2 ) \\ 3\n 4 ; a", api.OK, "", 1, 4)
	fresh(t, ".\" hello\" .\"  x \" 1", api.OK, "hello x ", 1)
	fresh(t, ".\" hello\n1", api.OK, "hello", 1)
	fresh(t, "s\" hello\" type", api.OK, "hello")
	fresh(t, ": a s\" hello\" type .\"  you\" ; a a", api.OK, "hello youhello you")
	fresh(t, ": a if .\" yes\" else .\" no\" then ; 1 a 0 a", api.OK, "yesno")
	fresh(t, ": a s\" \" ; a swap drop", api.OK, "", 0)
	fresh(t, "char abc char 'x", api.OK, "", 97, 39)
	fresh(t, ": a char z ; a", api.OK, "", 122)
	fresh(t, "char", api.NoName, "?-16\n")
	fresh(t, "char "+strings.Repeat("y", 50), api.OK, "", 121)
	o := made(t)
	here := o.Here()
	is(t, o, "s\" hello\"", api.OK, "", here, 5)
	if x, _ := o.Machine.Text(here, 8); x != "hello\x00\x00\x00" || o.Here() != here+8 {
		t.Errorf("%q", x)
	}
	is(t, o, "1 c, s\" abc\"", api.OK, "", here, 5, here+9, 3)
	if x, _ := o.Machine.Text(here+8, 8); x != "\x01abc\x00\x00\x00\x00" || o.Here() != here+16 {
		t.Errorf("%q", x)
	}
	is(t, o, "2drop\n: a s\" hello you\" ; a", api.Undefined, "?-13\n", here+64, 9)
	w, _ := head.Find(o.Mem, "a", o.List)
	l := cells(o, w.XT, o.Here())
	at := w.XT + 24
	if want := []int64{code.Colon, o.XT("branch"), at + 16, l[3], 'u', o.XT("lit"), at, o.XT("lit"), 9, o.XT("exit")}; !slices.Equal(l, want) {
		t.Errorf("%v\n%v", l, want)
	}
	o = made(t)
	is(t, o, "1 1 1 1 1 1 1 1 1 1 1 1 1 1 1 s\" x\"", api.Over, "?-3\n")
}

func TestTick(t *testing.T) {
	o := made(t)
	is(t, o, "' dup ' DUP", api.OK, "", o.XT("dup"), o.XT("dup"))
	fresh(t, ": a ' dup execute ; 5 a", api.OK, "", 5, 5)
	fresh(t, "' if", api.Undefined, "?-13\n")
	fresh(t, "' nothing", api.Undefined, "?-13\n")
	fresh(t, "'", api.NoName, "?-16\n")
	fresh(t, "' "+strings.Repeat("x", 32), api.NoName, "?-16\n")
	fresh(t, ": a ' a ;", api.Undefined, "?-13\n") // it is Hidden
}

func TestAfterACode(t *testing.T) {
	o := made(t)
	is(t, o, "variable keep", api.OK, "")
	for _, text := range []string{": a 1 nothing 2", ": a if begin 1 0 / nothing", ": a s\" xyz\" ; : b s\" abc\" then ;", ": a"} {
		here, words := o.Here(), len(head.Words(o.Mem, o.List))
		o.Text(text + "\n")
		o.Text("nothing")
		if o.Compiling || o.Method || !o.Marks.Closed() || o.D.Depth() != 0 || o.R.Depth() != 0 {
			t.Errorf("%s leaves something open", text)
		}
		if strings.Contains(text, ";") {
			continue
		}
		if o.Here() != here || len(head.Words(o.Mem, o.List)) != words {
			t.Errorf("%s: HERE is %d", text, o.Here())
		}
	}
	if w, ok := head.Find(o.Mem, "a", o.List); !ok || w.XT == 0 {
		t.Error("what was finished stays")
	}
	// Only what was made since the state was saved is gone.
	o = made(t)
	is(t, o, "variable x 1 , nothing", api.Undefined, "?-13\n")
	is(t, o, "x @", api.OK, "", 0)
	o = made(t)
	is(t, o, ": f 1 >r 2 0 / ; 5 f", api.Zero, "?-10\n")
	if o.R.Depth() != 0 {
		t.Error(o.R.Depth())
	}
	is(t, o, "1 2 f\n", api.Zero, "?-10\n")
	here := o.Here()
	is(t, o, ": g -8 allot", api.OK, "")
	is(t, o, "[", api.Undefined, "?-13\n")
	if o.Here() != here {
		t.Error(o.Here())
	}
	o = made(t)
	is(t, o, ": neg -200 allot ; immediate", api.OK, "")
	here = o.Here()
	is(t, o, ": a neg nothing", api.Undefined, "?-13\n") // HERE is before what was saved, and stays
	if o.Here() >= here {
		t.Error(o.Here())
	}
	o = made(t)
	is(t, o, ": deep recurse ; deep", api.ReturnOver, "?-5\n")
	is(t, o, "1 allot : x ;", api.OK, "")
	is(t, o, ": odd 1 c, ; immediate : y odd dup ;", api.Align, "?-23\n")
}

func TestDictionaryFull(t *testing.T) {
	o := made(t)
	is(t, o, fmt.Sprint(8192-o.Here()-40, " allot"), api.OK, "")
	here := o.Here()
	is(t, o, "variable x", api.OK, "")
	if o.Here() != 8192 {
		t.Error(o.Here())
	}
	is(t, o, "x", api.OK, "", 8184)
	is(t, o, fmt.Sprint("-40 allot 24 allot variable y"), api.DictOver, "?-8\n")
	if o.Here() != here+24 {
		t.Error(o.Here())
	}
	is(t, o, "-24 allot : y 1 ;", api.DictOver, "?-8\n")
	if o.Here() != here {
		t.Error(o.Here())
	}
	is(t, o, "s\" "+strings.Repeat("z", 41)+"\"", api.DictOver, "?-8\n")
	o = made(t)
	o.Allot(8192 - o.Here() - 24)
	is(t, o, ": z", api.DictOver, "?-8\n")
	if o.Compiling {
		t.Error("without a word nothing is compiled")
	}
	for _, word := range []string{"if", "while", "begin until", "do", "begin again", "0 0 do loop", "exit", "recurse", "dup", "5", "char x", "' dup", "s\" a\"", ".\" a\"", ";", "if else", "begin while repeat"} {
		o := made(t)
		is(t, o, ": rest 8192 here - swap - allot ; immediate", api.OK, "")
		here := o.Here()
		parts := strings.SplitAfter(word, " ")
		last := parts[len(parts)-1]
		if strings.Contains(word, "\"") || strings.HasPrefix(word, "char") || strings.HasPrefix(word, "'") {
			last, parts = word, nil
		} else {
			parts = parts[:len(parts)-1]
		}
		is(t, o, "0 : a "+strings.Join(parts, "")+" rest "+last+"\n", api.DictOver, "?-8\n")
		if o.Here() != here || o.Compiling {
			t.Error(word, o.Here())
		}
		if last == "if" || last == "until" || last == "s\" a\"" {
			is(t, o, "8 : a "+strings.Join(parts, "")+" rest "+last+"\n", api.DictOver, "?-8\n")
		}
	}
}

func TestMake(t *testing.T) {
	o := made(t)
	list, _ := head.List(o.Space)
	w, e := o.Make(list, "Pair", code.Constant, head.Immediate, 5, 6)
	if e != api.OK || w.Name != "pair" || w.Flags != head.Immediate || !slices.Equal(cells(o, w.XT, o.Here()), []int64{code.Constant, 5, 6}) {
		t.Error(w, e)
	}
	o.Order = []int64{list, o.List}
	is(t, o, "pair", api.OK, "", 5)
	is(t, o, "immediate : b pair ; b", api.OK, "", 5, 5)
	if o.saved == nil {
		t.Error("with more than one list the state stays saved")
	}
	o.Kept()
	for _, c := range []struct {
		list int64
		name string
		want api.Code
	}{{list, "", api.NoName}, {list, strings.Repeat("x", 32), api.NoName}, {-8, "x", api.Address}, {4, "x", api.Align}} {
		if w, e := o.Make(c.list, c.name, 1, 0); w != (head.Word{}) || e != c.want {
			t.Error(c, w, e)
		}
	}
	o.Allot(8192 - o.Here() - 36)
	here := o.Here()
	before, _ := o.Cell(list)
	if w, e := o.Make(list, "x", code.Constant, 0, 7); w != (head.Word{}) || e != api.DictOver || o.Here() != here {
		t.Error(w, e, o.Here())
	}
	if n, _ := o.Cell(list); n != before {
		t.Error(n)
	}
}

func TestExtend(t *testing.T) {
	o := made(t)
	resets := 0
	var heard string
	o.Extend(map[string]func(o *Outer) api.Code{
		"Hello": func(o *Outer) api.Code { return o.Literal(77) },
		"dup":   func(o *Outer) api.Code { return o.Literal(1, 2) },
		"if":    func(o *Outer) api.Code { return api.Conform },
		"name": func(o *Outer) api.Code {
			name, e := o.Name()
			heard = name
			return e
		},
		"again!": func(o *Outer) api.Code { o.Again("3 4"); return api.OK },
	}, func() { resets++ })
	is(t, o, "hello HELLO : a hello dup ; a", api.OK, "", 77, 77, 77, 1, 2)
	if resets != 0 {
		t.Error(resets)
	}
	is(t, o, "if", api.Conform, "?-2050\n")
	is(t, o, "nothing\nnothing", api.Undefined, "?-13\n?-13\n")
	if resets != 3 {
		t.Error(resets)
	}
	is(t, o, "1 again! 2", api.OK, "", 1, 3, 4)
	is(t, o, "name Some", api.OK, "", 1, 3, 4)
	if heard != "Some" {
		t.Errorf("a name is as it is written: %q", heard)
	}
	more := 0
	o.Extend(map[string]func(o *Outer) api.Code{"hello": func(o *Outer) api.Code { return o.Literal(78) }}, func() { more++ })
	is(t, o, "nothing hello\nhello", api.Undefined, "?-13\n", 78)
	if resets != 4 || more != 1 {
		t.Error(resets, more)
	}
	o.Extend(nil, nil)
	o.Extend(map[string]func(o *Outer) api.Code{"dup": nil}, nil)
	is(t, o, "drop 5 dup", api.OK, "", 5, 1, 2)
	is(t, o, "nothing", api.Undefined, "?-13\n")
}

func TestStartAndStop(t *testing.T) {
	o := made(t)
	if e := o.Stop(); e != api.Control {
		t.Error(e)
	}
	o.Marks.Open(control.If, 8)
	o.Start(true)
	if !o.Compiling || !o.Method || !o.Marks.Closed() {
		t.Error("Start")
	}
	is(t, o, "; ", api.Control, "?-22\n")
	if o.Compiling || o.Method {
		t.Error("after a code")
	}
	o.Start(true)
	is(t, o, "recurse", api.Control, "?-22\n")
	o.Start(true)
	here := o.Here()
	is(t, o, "exit", api.OK, "")
	if n, _ := o.Cell(here); n != o.XT("(exitm)") {
		t.Error(n)
	}
	o.Marks.Open(control.If, 8)
	if e := o.Stop(); e != api.Control || !o.Compiling {
		t.Error(e)
	}
	o.Marks.Close(control.If)
	if e := o.Stop(); e != api.OK || o.Compiling {
		t.Error(e)
	}
	o.Start(false)
	if !o.Compiling || o.Method {
		t.Error("Start")
	}
}

func TestKeep(t *testing.T) {
	o := made(t)
	here := o.Here()
	o.Keep()
	is(t, o, "variable x", api.OK, "")
	o.Keep() // one is saved
	is(t, o, "variable y nothing", api.Undefined, "?-13\n")
	if o.Here() != here {
		t.Error(o.Here())
	}
	is(t, o, "x", api.Undefined, "?-13\n")
	o.Keep()
	is(t, o, "variable x", api.OK, "")
	o.Kept()
	is(t, o, "nothing", api.Undefined, "?-13\n")
	is(t, o, "x @", api.OK, "", 0)
	is(t, o, ": z ; nothing", api.Undefined, "?-13\n")
	is(t, o, "z", api.OK, "") // ; removes what was saved
}

func TestParts(t *testing.T) {
	o := made(t)
	here := o.Here()
	if e := o.Compile("lit", 5, 6); e != api.OK || !slices.Equal(cells(o, here, o.Here()), []int64{o.XT("lit"), 5, 6}) {
		t.Error(e)
	}
	if e := o.Literal(1, 2); e != api.OK || o.D.Depth() != 2 {
		t.Error(e)
	}
	if e := o.Literal(make([]int64, 15)...); e != api.Over || o.D.Depth() != 2 {
		t.Error(e)
	}
	o.Start(false)
	here = o.Here()
	if e := o.Literal(1, 2); e != api.OK || !slices.Equal(cells(o, here, o.Here()), []int64{o.XT("lit"), 1, o.XT("lit"), 2}) {
		t.Error(e)
	}
	o.Allot(8192 - 8 - o.Here())
	if e := o.Literal(1); e != api.DictOver || o.Here() != 8192 {
		t.Error(e)
	}
	o.Again("Dup nothing")
	if w, e := o.Find(); w.XT != o.XT("dup") || e != api.OK {
		t.Error(w, e)
	}
	if w, e := o.Find(); w != (head.Word{}) || e != api.Undefined {
		t.Error(w, e)
	}
	if w, e := o.Find(); w != (head.Word{}) || e != api.NoName {
		t.Error(w, e)
	}
	if s, e := o.Name(); s != "" || e != api.NoName {
		t.Error(s, e)
	}
	o.Again(strings.Repeat("x", 32) + " y")
	if s, e := o.Name(); s != "" || e != api.NoName || o.Src.Rest() != "y" {
		t.Error(s, e)
	}
	o.Again("a b\nc")
	o.Out = ""
	o.D.Push(1)
	o.R.Push(1)
	o.Fail(-7)
	if o.Out != "?-7\n" || o.D.Depth() != 0 || o.R.Depth() != 0 || o.Src.Rest() != "c" || o.Compiling {
		t.Error(o.Out, o.Src.Rest())
	}
}

func TestNil(t *testing.T) {
	var o *Outer
	if o.Text("1") != api.Argument || o.XT("dup") != 0 {
		t.Error("Text, XT")
	}
	o.Extend(map[string]func(o *Outer) api.Code{"a": func(o *Outer) api.Code { return api.OK }}, func() {})
	o.Again("")
	o.Keep()
	o.Kept()
	o.Start(true)
	o.Fail(1)
	if o.Stop() == api.OK || o.Compile("dup") == api.OK || o.Literal(1) == api.OK {
		t.Error("Stop, Compile, Literal")
	}
	if s, e := o.Name(); s != "" || e == api.OK {
		t.Error(s, e)
	}
	if w, e := o.Find(); w != (head.Word{}) || e == api.OK {
		t.Error(w, e)
	}
	if w, e := o.Make(8, "a", 1, 0); w != (head.Word{}) || e == api.OK {
		t.Error(w, e)
	}
}

// Whatever the text is, reading ends, and after an error nothing is open.
func TestNoise(t *testing.T) {
	parts := append(code.Names(), ":", ";", "immediate", "recurse", "variable", "create", "constant", "if", "while", "else", "then", "begin", "do", "again", "until",
		"repeat", "loop", "+loop", "(", ")", "\\", "s\"", ".\"", "\"", "char", "'", "1", "-1", "8", "100", "x", "y", "x", "y", "\n", "\n", "base")
	seed := uint32(77)
	for range 2000 {
		o := made(t)
		o.Fuel = 500
		var l []string
		for range 40 {
			seed = seed*1664525 + 1013904223
			l = append(l, parts[int(seed>>8)%len(parts)])
		}
		text := strings.Join(l, " ")
		if e := o.Text(text); e != api.Fuel && o.Fuel < 0 {
			t.Fatalf("%q: %d", text, e)
		}
		o.Over = false
		o.Fuel = max(o.Fuel, 10)
		o.Text("\nthere-is-none")
		if o.Compiling || o.Method || !o.Marks.Closed() || o.D.Depth() != 0 || o.R.Depth() != 0 {
			t.Fatalf("%q leaves something open", text)
		}
	}
}
