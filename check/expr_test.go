package check_test

import (
	"fmt"
	"strings"
	"testing"

	"alembic/api"
	"alembic/check"
)

// prelude declares what the expressions of the tests are made of.
const prelude = `char c; unsigned char uc; short s; unsigned short us; int i; unsigned int u; long l; unsigned long ul; double d;
int *p; int **pp; char *cp; unsigned char *ucp; void *v; void **vv; double *dp; struct un *up; struct un *uq; short *sp; long *lp;
struct r { char k; int b; double e; int t[3]; struct r *next; int (*fn)(int); struct q *q; union w *w; };
union w { int x; double y; char z[12]; struct r r; };
struct r g; struct r *gp; struct r ga[4]; union w w; union w *wp; union r *bad;
int a[5]; int m[2][3]; char ca[7]; char *cpa[2]; int *pa[3];
int (*fp)(int, double); void (*vf)(void); struct r (*rf)(void); int (*fa[2])(int, double); int *(*pf)(char*); struct un (*uf)(void); void (*odd)(void, struct r);
extern int ei(int a); extern void ev(void); extern double ed(double a, char b); extern long el(long a, unsigned long b); extern void *ep(void *a, int *b);
int fi(int a) { return a; } void fv() { } char fc(short a, unsigned char b) { return 1; } int *fq(int (*h)(int, double), struct un *o) { return 0; }
`

// bodyOf is the body of a function f behind the prelude, and its strings.
func bodyOf(t *testing.T, result, params, text string) string {
	t.Helper()
	u := checked(t, prelude+result+" f("+params+") { "+text+" }")
	return stmtsText(u.Funcs[len(u.Funcs)-1].Body)
}

// wantBody asks for the statements of a function without parameters or result.
func wantBody(t *testing.T, text, want string) {
	t.Helper()
	if got := bodyOf(t, "void", "", text); got != want {
		t.Errorf("%s\nis  %s\nnot %s", text, got, want)
	}
}

// wantFault asks for an error in such a function, where the stroke stands.
func wantFault(t *testing.T, errno api.Errno, text string) {
	t.Helper()
	wantError(t, errno, prelude+"void f() { "+text+" }")
}

// wantExpr asks for an expression's Core and for its type, but where that is empty. A mark § stands where the expression's own place is, if that isn't its beginning.
func wantExpr(t *testing.T, marked, of, want string) {
	t.Helper()
	text := strings.Replace(marked, "§", "", 1)
	wantBody(t, text+";", "(do "+want+")")
	if of != "" {
		wantBody(t, "i, ("+text+");", "(do (, (load c32 @i) "+want+"))")
	}
	n, isNumber := isNumber(of)
	switch {
	case of == "":
	case of == "void":
		wantFault(t, api.ErrType, "i = ("+atSign(marked)+");")
	case isNumber:
		wantBody(t, "sizeof ("+text+");", fmt.Sprintf("(do %dL)", n.size))
		wantBody(t, "d = "+text+";", "(do (assign cf64 @d "+conv(want, n, numberOf("double"))+"))")
		wantBody(t, "l = "+text+";", "(do (assign c64 @l "+conv(want, n, numberOf("long"))+"))")
	default:
		wantBody(t, of+" z = "+text+";", "(do (assign c64 $0 "+want+"))")
		wantPointer(t, text, of)
	}
}

// atSign puts the stroke where an expression's own place is.
func atSign(text string) string {
	if strings.Contains(text, "§") {
		return strings.Replace(text, "§", "¦", 1)
	}
	return "¦" + text
}

// wantPointer asks whether an expression has a pointer's type and not another one.
func wantPointer(t *testing.T, text, of string) {
	t.Helper()
	_, _, errno := check.Unit(trees(t, prelude+"void f() { struct never *z = "+text+"; }"))
	if (errno == api.OK) != (of == "void *") {
		t.Errorf("%s isn't %s: error %d", text, of, errno)
	}
}

// number is an arithmetic type.
type number struct {
	name, short string // and the variable of the type in the prelude
	size        int
	signed      bool
	chunk       string
}

func numbers() []number {
	return []number{
		{"char", "c", 1, true, "c8s"}, {"unsigned char", "uc", 1, false, "c8u"}, {"short", "s", 2, true, "c16s"}, {"unsigned short", "us", 2, false, "c16u"},
		{"int", "i", 4, true, "c32"}, {"unsigned int", "u", 4, false, "c32"}, {"long", "l", 8, true, "c64"}, {"unsigned long", "ul", 8, false, "c64"}, {"double", "d", 8, true, "cf64"},
	}
}

func numberOf(name string) number {
	n, ok := isNumber(name)
	if !ok {
		panic(name)
	}
	return n
}

// isNumber is the number of a type's name, if it is one.
func isNumber(of string) (number, bool) {
	for _, n := range numbers() {
		if n.name == of {
			return n, true
		}
	}
	return number{}, false
}

func (n number) double() bool { return n.name == "double" }

// wrap puts operations round an expression, the first innermost.
func wrap(x string, ops ...string) string {
	for _, op := range ops {
		x = "(" + op + " " + x + ")"
	}
	return x
}

// choose is one of two by a number's sign.
func (n number) choose(signed, unsigned string) string {
	if n.signed {
		return signed
	}
	return unsigned
}

// conv is how a number of one type becomes one of another.
func conv(x string, from, to number) string {
	small := map[int]string{1: to.choose("s8", "u8"), 2: to.choose("s16", "u16")}[to.size]
	var ops []string
	switch {
	case from.name == to.name:
	case to.double() && from.size == 8:
		ops = []string{from.choose("dbll", "dblul")}
	case to.double() && from.size == 4:
		ops = []string{from.choose("dbls", "dblu")}
	case to.double():
		ops = []string{"dbls"}
	case from.double() && to.size == 8:
		ops = []string{to.choose("longd", "ulongd")}
	case from.double() && to.size == 4:
		ops = []string{to.choose("intd", "uintd")}
	case from.double():
		ops = []string{"intd", small}
	case to.size == 8 && from.size == 8:
	case to.size == 8:
		ops = []string{from.choose("longs", "longu")}
	default:
		if from.size == 8 {
			ops = append(ops, "int")
		}
		if small != "" {
			ops = append(ops, small)
		}
	}
	return wrap(x, ops...)
}

// lift is a number's type, promoted.
func lift(n number) number {
	if n.size < 4 {
		return numberOf("int")
	}
	return n
}

// meet is the type in which two numbers are reckoned with.
func meet(x, y number) number {
	x, y = lift(x), lift(y)
	switch {
	case x.double() || y.double():
		return numberOf("double")
	case x.size > y.size || x.size == y.size && !x.signed:
		return x
	}
	return y
}

// op is how an operation is written for a type: its word, u for one without a sign that has such a one, l or d.
func op(word string, of number) string {
	if !of.signed && strings.Contains(" div mod lt le gt ge shr ", " "+word+" ") {
		word += "u"
	}
	switch {
	case of.double():
		return word + "d"
	case of.size == 8:
		return word + "l"
	}
	return word
}

// load is the value of a number's variable.
func (n number) load() string { return "(load " + n.chunk + " @" + n.short + ")" }

// infix are the operations of two numbers.
func infix() []struct {
	sign, word   string
	whole, truth bool
} {
	return []struct {
		sign, word   string
		whole, truth bool
	}{
		{"*", "mul", false, false}, {"/", "div", false, false}, {"+", "add", false, false}, {"-", "sub", false, false},
		{"%", "mod", true, false}, {"&", "and", true, false}, {"^", "xor", true, false}, {"|", "or", true, false},
		{"==", "eq", false, true}, {"!=", "ne", false, true}, {"<", "lt", false, true}, {"<=", "le", false, true}, {">", "gt", false, true}, {">=", "ge", false, true},
	}
}

// P7.1: operations of two numbers, of all pairs of types.
func TestNumbersOfTwo(t *testing.T) {
	for _, x := range numbers() {
		for _, y := range numbers() {
			in := meet(x, y)
			both := conv(x.load(), x, in) + " " + conv(y.load(), y, in)
			for _, o := range infix() {
				if o.whole && in.double() {
					wantFault(t, api.ErrType, x.short+" ¦"+o.sign+" "+y.short+";")
					continue
				}
				of := in.name
				if o.truth {
					of = "int"
				}
				wantExpr(t, x.short+o.sign+y.short, of, "("+op(o.word, in)+" "+both+")")
			}
			wantExpr(t, x.short+"&&"+y.short, "int", "(&& "+x.load()+" "+y.load()+")")
			wantExpr(t, x.short+"||"+y.short, "int", "(|| "+x.load()+" "+y.load()+")")
			wantExpr(t, "("+x.short+","+y.short+")", y.name, "(, "+x.load()+" "+y.load()+")")
			wantExpr(t, "(i?"+x.short+":"+y.short+")", in.name, "(? (load c32 @i) "+both+")")
			wantExpr(t, "("+x.short+"="+y.short+")", x.name, "(assign "+x.chunk+" @"+x.short+" "+conv(y.load(), y, x)+")")
			wantExpr(t, "("+x.name+")"+y.short, x.name, conv(y.load(), y, x))
			wantBody(t, x.name+" z = "+y.short+";", "(do (assign "+x.chunk+" $0 "+conv(y.load(), y, x)+"))")
			checkShift(t, x, y)
			checkModify(t, x, y)
			checkPassing(t, x, y)
		}
	}
}

// far is how far a shift goes.
func far(x string, n number) string {
	if n.size == 8 {
		return wrap(x, "int")
	}
	return x
}

func checkShift(t *testing.T, x, y number) {
	t.Helper()
	for sign, word := range map[string]string{"<<": "shl", ">>": "shr"} {
		if x.double() || y.double() {
			wantFault(t, api.ErrType, x.short+" ¦"+sign+" "+y.short+";")
			wantFault(t, api.ErrType, x.short+" ¦"+sign+"= "+y.short+";")
			continue
		}
		in := lift(x)
		wantExpr(t, x.short+sign+y.short, in.name, "("+op(word, in)+" "+x.load()+" "+far(y.load(), y)+")")
		changed := conv("("+op(word, in)+" old arg)", in, x)
		wantExpr(t, "("+x.short+sign+"="+y.short+")", x.name, "(modify "+x.chunk+" @"+x.short+" "+far(y.load(), y)+" "+changed+")")
	}
}

func checkModify(t *testing.T, x, y number) {
	t.Helper()
	in := meet(x, y)
	for _, o := range infix() {
		switch {
		case o.truth:
		case o.whole && in.double():
			wantFault(t, api.ErrType, x.short+" ¦"+o.sign+"= "+y.short+";")
		default:
			changed := conv("("+op(o.word, in)+" "+conv("old", x, in)+" arg)", in, x)
			wantExpr(t, "("+x.short+o.sign+"="+y.short+")", x.name, "(modify "+x.chunk+" @"+x.short+" "+conv(y.load(), y, in)+" "+changed+")")
		}
	}
}

// checkPassing looks at arguments and results.
func checkPassing(t *testing.T, x, y number) {
	t.Helper()
	u := checked(t, prelude+x.name+" f("+x.name+" a, "+y.name+" b) { return f(b, a) + 0, b; }")
	f := u.Funcs[len(u.Funcs)-1]
	kinds := []int{kindOf(x), kindOf(y)}
	sum := meet(x, numberOf("int"))
	a, b := "(load "+x.chunk+" $0)", "(load "+y.chunk+" $1)"
	call := "(call " + sigText(api.Sig{Params: kinds, Result: kinds[0]}) + " @f " + conv(b, y, x) + " " + conv(a, x, y) + ")"
	added := "(" + op("add", sum) + " " + conv(call, x, sum) + " " + conv("0", numberOf("int"), sum) + ")"
	want := "(return " + conv("(, "+added+" "+b+")", y, x) + ")"
	if got := stmtsText(f.Body); got != want || sigText(f.Sig) != sigText(api.Sig{Params: kinds, Result: kinds[0]}) {
		t.Errorf("%s, %s: %s\nnot %s", x.name, y.name, got, want)
	}
}

func kindOf(n number) int {
	switch {
	case n.double():
		return api.Double
	case n.size == 8:
		return api.Long
	}
	return api.Int
}

// P7.1: operations of one number, of all types.
func TestNumbersOfOne(t *testing.T) {
	one := numberOf("int")
	for _, x := range numbers() {
		in := lift(x)
		wantExpr(t, "-"+x.short, in.name, "("+op("neg", in)+" "+x.load()+")")
		if x.double() {
			wantFault(t, api.ErrType, "¦~"+x.short+";")
		} else {
			wantExpr(t, "~"+x.short, in.name, "("+op("not", in)+" "+x.load()+")")
		}
		wantExpr(t, "!"+x.short, "int", "(false "+x.load()+")")
		wantExpr(t, x.short, x.name, x.load())
		wantExpr(t, "*&"+x.short, x.name, x.load())
		wantExpr(t, "(&"+x.short+")[0]", x.name, fmt.Sprintf("(load %s (addl @%s (mull (longs 0) %dL)))", x.chunk, x.short, x.size))
		wantExpr(t, "&"+x.short, x.name+" *", "@"+x.short)
		wantExpr(t, "sizeof "+x.short, "unsigned long", fmt.Sprintf("%dL", x.size))
		wantExpr(t, "sizeof ("+x.name+")", "unsigned long", fmt.Sprintf("%dL", x.size))
		wantExpr(t, "sizeof -"+x.short, "unsigned long", fmt.Sprintf("%dL", in.size))
		wantExpr(t, "(void)"+x.short, "", x.load())
		in = meet(x, one)
		for sign, word := range map[string]string{"++": "add", "--": "sub"} {
			changed := conv("("+op(word, in)+" "+conv("old", x, in)+" arg)", in, x)
			parts := " " + x.chunk + " @" + x.short + " " + conv("1", one, in) + " " + changed + ")"
			wantExpr(t, sign+x.short, x.name, "(modify"+parts)
			wantExpr(t, x.short+sign, x.name, "(back"+parts)
		}
	}
}

// P7.1: numbers and characters as they stand in the text.
func TestLiterals(t *testing.T) {
	for _, x := range []struct{ text, of, want string }{
		{"0", "int", "0"}, {"1", "int", "1"}, {"2147483647", "int", "2147483647"}, {"2147483648", "long", "2147483648L"}, {"4294967295", "long", "4294967295L"}, {"4294967296", "long", "4294967296L"}, {"9223372036854775807", "long", "9223372036854775807L"}, {"9223372036854775808", "unsigned long", "-9223372036854775808L"}, {"18446744073709551615", "unsigned long", "-1L"},
		{"0x7fffffff", "int", "2147483647"}, {"0x80000000", "long", "2147483648L"}, {"0xffffffff", "long", "4294967295L"}, {"037777777777", "long", "4294967295L"},
		{"0u", "unsigned int", "0"}, {"2147483648u", "unsigned int", "-2147483648"}, {"4294967295u", "unsigned int", "-1"}, {"4294967296u", "unsigned long", "4294967296L"}, {"18446744073709551615U", "unsigned long", "-1L"},
		{"0l", "long", "0L"}, {"1L", "long", "1L"}, {"9223372036854775807l", "long", "9223372036854775807L"}, {"9223372036854775808l", "unsigned long", "-9223372036854775808L"},
		{"0ul", "unsigned long", "0L"}, {"7lu", "unsigned long", "7L"}, {"4294967295UL", "unsigned long", "4294967295L"}, {"18446744073709551615Ul", "unsigned long", "-1L"},
		{"'a'", "int", "97"}, {"'\\0'", "int", "0"}, {"'\\xff'", "int", "255"}, {"'é'", "int", "233"}, {"'\U0010ffff'", "int", "1114111"},
		{"0.5", "double", "0.5D"}, {"0.0", "double", "0D"}, {"123.25", "double", "123.25D"},
		{"-1", "int", "(neg 1)"}, {"-2147483648", "long", "(negl 2147483648L)"}, {"-1u", "unsigned int", "(neg 1)"}, {"-1.5", "double", "(negd 1.5D)"}, {"- - 1", "int", "(neg (neg 1))"},
	} {
		wantExpr(t, x.text, x.of, x.want)
	}
}

// P7.1: pointers, arrays, records and functions.
func TestAddresses(t *testing.T) {
	for _, x := range []struct{ text, of, want string }{
		// names
		{"p", "int *", "(load c64 @p)"}, {"a", "int *", "@a"}, {"ca", "char *", "@ca"}, {"m", "", "@m"}, {"cpa", "char **", "@cpa"}, {"g", "", "@g"}, {"w", "", "@w"}, {"v", "void *", "(load c64 @v)"}, {"up", "struct un *", "(load c64 @up)"}, {"ga", "struct r *", "@ga"},
		// &
		{"&p", "int **", "@p"}, {"&a", "", "@a"}, {"&g", "struct r *", "@g"}, {"&w", "union w *", "@w"}, {"&a[2]", "int *", "(addl @a (mull (longs 2) 4L))"}, {"&*p", "int *", "(load c64 @p)"}, {"&*up", "struct un *", "(load c64 @up)"}, {"&g.b", "int *", "(addl @g 4L)"}, {"&v", "void **", "@v"}, {"&gp->next", "struct r **", "(addl (load c64 @gp) 32L)"}, {"&m[1]", "", "(addl @m (mull (longs 1) 12L))"}, {"&*&*p", "int *", "(load c64 @p)"},
		// *
		{"*p", "int", "(load c32 (load c64 @p))"}, {"**pp", "int", "(load c32 (load c64 (load c64 @pp)))"}, {"*pp", "int *", "(load c64 (load c64 @pp))"}, {"*a", "int", "(load c32 @a)"}, {"*m", "int *", "@m"}, {"**m", "int", "(load c32 @m)"}, {"*cp", "char", "(load c8s (load c64 @cp))"}, {"*ucp", "unsigned char", "(load c8u (load c64 @ucp))"}, {"*dp", "double", "(load cf64 (load c64 @dp))"}, {"*vv", "void *", "(load c64 (load c64 @vv))"}, {"*gp", "", "(load c64 @gp)"}, {"*up", "", "(load c64 @up)"}, {"*&g", "", "@g"}, {"*cpa", "char *", "(load c64 @cpa)"}, {"**cpa", "char", "(load c8s (load c64 @cpa))"}, {"*&a", "int *", "@a"}, {"**&a", "int", "(load c32 @a)"}, {"*&m", "", "@m"},
		// !, tests
		{"!p", "int", "(false (load c64 @p))"}, {"!a", "int", "(false @a)"}, {"!fi", "int", "(false @fi)"}, {"!\"x\"", "int", "(false @.s0)"}, {"p && d", "int", "(&& (load c64 @p) (load cf64 @d))"}, {"a || fi", "int", "(|| @a @fi)"},
		// indices
		{"a[0]", "int", "(load c32 (addl @a (mull (longs 0) 4L)))"}, {"a[i]", "int", "(load c32 (addl @a (mull (longs (load c32 @i)) 4L)))"}, {"a[l]", "int", "(load c32 (addl @a (mull (load c64 @l) 4L)))"}, {"a[ul]", "int", "(load c32 (addl @a (mull (load c64 @ul) 4L)))"}, {"a[u]", "int", "(load c32 (addl @a (mull (longu (load c32 @u)) 4L)))"}, {"a[c]", "int", "(load c32 (addl @a (mull (longs (load c8s @c)) 4L)))"}, {"a[us]", "int", "(load c32 (addl @a (mull (longu (load c16u @us)) 4L)))"}, {"i[a]", "int", "(load c32 (addl (mull (longs (load c32 @i)) 4L) @a))"}, {"0[p]", "int", "(load c32 (addl (mull (longs 0) 4L) (load c64 @p)))"}, {"p[-1]", "int", "(load c32 (addl (load c64 @p) (mull (longs (neg 1)) 4L)))"}, {"m[1][2]", "int", "(load c32 (addl (addl @m (mull (longs 1) 12L)) (mull (longs 2) 4L)))"}, {"m[1]", "int *", "(addl @m (mull (longs 1) 12L))"}, {"2[m[1]]", "int", "(load c32 (addl (mull (longs 2) 4L) (addl @m (mull (longs 1) 12L))))"}, {"\"ab\"[1]", "char", "(load c8s (addl @.s0 (mull (longs 1) 1L)))"}, {"pp[1][2]", "int", "(load c32 (addl (load c64 (addl (load c64 @pp) (mull (longs 1) 8L))) (mull (longs 2) 4L)))"}, {"ga[2]", "", "(addl @ga (mull (longs 2) 64L))"}, {"ga[1].b", "int", "(load c32 (addl (addl @ga (mull (longs 1) 64L)) 4L))"}, {"(&a)[1][2]", "int", "(load c32 (addl (addl @a (mull (longs 1) 20L)) (mull (longs 2) 4L)))"},
		// + -
		{"p + 1", "int *", "(addl (load c64 @p) (mull (longs 1) 4L))"}, {"1 + p", "int *", "(addl (mull (longs 1) 4L) (load c64 @p))"}, {"p - l", "int *", "(subl (load c64 @p) (mull (load c64 @l) 4L))"}, {"a + i", "int *", "(addl @a (mull (longs (load c32 @i)) 4L))"}, {"0 + a", "int *", "(addl (mull (longs 0) 4L) @a)"}, {"gp + 2", "struct r *", "(addl (load c64 @gp) (mull (longs 2) 64L))"}, {"p + 0", "int *", "(addl (load c64 @p) (mull (longs 0) 4L))"}, {"p - 0", "int *", "(subl (load c64 @p) (mull (longs 0) 4L))"}, {"\"ab\" + 'b'", "char *", "(addl @.s0 (mull (longs 98) 1L))"}, {"m + 1", "", "(addl @m (mull (longs 1) 12L))"}, {"vv + 1", "void **", "(addl (load c64 @vv) (mull (longs 1) 8L))"}, {"fa + 1", "", "(addl @fa (mull (longs 1) 8L))"}, {"&a + 1", "", "(addl @a (mull (longs 1) 20L))"}, {"&up + 1", "struct un **", "(addl @up (mull (longs 1) 8L))"},
		{"p - p", "long", "(divl (subl (load c64 @p) (load c64 @p)) 4L)"}, {"a - p", "long", "(divl (subl @a (load c64 @p)) 4L)"}, {"cp - ca", "long", "(divl (subl (load c64 @cp) @ca) 1L)"}, {"gp - ga", "long", "(divl (subl (load c64 @gp) @ga) 64L)"}, {"m - m", "long", "(divl (subl @m @m) 12L)"}, {"&a - &a", "long", "(divl (subl @a @a) 20L)"}, {"vv - vv", "long", "(divl (subl (load c64 @vv) (load c64 @vv)) 8L)"},
		// comparisons
		{"p == a", "int", "(eql (load c64 @p) @a)"}, {"p != p", "int", "(nel (load c64 @p) (load c64 @p))"}, {"p < a", "int", "(ltul (load c64 @p) @a)"}, {"p <= a", "int", "(leul (load c64 @p) @a)"}, {"p > a", "int", "(gtul (load c64 @p) @a)"}, {"p >= a", "int", "(geul (load c64 @p) @a)"}, {"v < v", "int", "(ltul (load c64 @v) (load c64 @v))"}, {"p == v", "int", "(eql (load c64 @p) (load c64 @v))"}, {"v != gp", "int", "(nel (load c64 @v) (load c64 @gp))"}, {"v == fi", "int", "(eql (load c64 @v) @fi)"}, {"p == 0", "int", "(eql (load c64 @p) 0L)"}, {"0 != p", "int", "(nel 0L (load c64 @p))"}, {"p == '\\0'", "int", "(eql (load c64 @p) 0L)"}, {"p == 0ul", "int", "(eql (load c64 @p) 0L)"}, {"v == 0", "int", "(eql (load c64 @v) 0L)"}, {"a == 0", "int", "(eql @a 0L)"}, {"fi == 0", "int", "(eql @fi 0L)"}, {"0 == 0", "int", "(eq 0 0)"}, {"fi == ei", "int", "(eql @fi @ei)"}, {"fi < ei", "int", "(ltul @fi @ei)"}, {"up == uq", "int", "(eql (load c64 @up) (load c64 @uq))"}, {"up >= uq", "int", "(geul (load c64 @up) (load c64 @uq))"},
		// = and operations with it
		{"(p = a)", "int *", "(assign c64 @p @a)"}, {"(p = 0)", "int *", "(assign c64 @p 0L)"}, {"(p = 0l)", "int *", "(assign c64 @p 0L)"}, {"(p = v)", "int *", "(assign c64 @p (load c64 @v))"}, {"(v = p)", "void *", "(assign c64 @v (load c64 @p))"}, {"(v = fi)", "void *", "(assign c64 @v @fi)"}, {"(fp = v)", "", "(assign c64 @fp (load c64 @v))"}, {"(vv = v)", "void **", "(assign c64 @vv (load c64 @v))"}, {"(v = v)", "void *", "(assign c64 @v (load c64 @v))"}, {"(v = 0)", "void *", "(assign c64 @v 0L)"}, {"(gp = &g)", "struct r *", "(assign c64 @gp @g)"}, {"(*pp = a)", "int *", "(assign c64 (load c64 @pp) @a)"}, {"(*p = 3)", "int", "(assign c32 (load c64 @p) 3)"}, {"(a[1] = c)", "int", "(assign c32 (addl @a (mull (longs 1) 4L)) (load c8s @c))"}, {"(gp->k = 300)", "char", "(assign c8s (load c64 @gp) (s8 300))"}, {"(p = p = a)", "int *", "(assign c64 @p (assign c64 @p @a))"}, {"(cp = \"a\")", "char *", "(assign c64 @cp @.s0)"}, {"(up = uq)", "struct un *", "(assign c64 @up (load c64 @uq))"},
		{"(p += 2)", "int *", "(modify c64 @p (mull (longs 2) 4L) (addl old arg))"}, {"(p -= l)", "int *", "(modify c64 @p (mull (load c64 @l) 4L) (subl old arg))"}, {"(gp += c)", "struct r *", "(modify c64 @gp (mull (longs (load c8s @c)) 64L) (addl old arg))"}, {"(*pp += 1)", "int *", "(modify c64 (load c64 @pp) (mull (longs 1) 4L) (addl old arg))"}, {"(p += 0)", "int *", "(modify c64 @p (mull (longs 0) 4L) (addl old arg))"}, {"(vv -= 1)", "void **", "(modify c64 @vv (mull (longs 1) 8L) (subl old arg))"},
		{"p++", "int *", "(back c64 @p 4L (addl old arg))"}, {"p--", "int *", "(back c64 @p 4L (subl old arg))"}, {"++p", "int *", "(modify c64 @p 4L (addl old arg))"}, {"--gp", "struct r *", "(modify c64 @gp 64L (subl old arg))"}, {"vv++", "void **", "(back c64 @vv 8L (addl old arg))"}, {"*p++", "int", "(load c32 (back c64 @p 4L (addl old arg)))"}, {"(*p)++", "int", "(back c32 (load c64 @p) 1 (add old arg))"}, {"++*p", "int", "(modify c32 (load c64 @p) 1 (add old arg))"}, {"++a[1]", "int", "(modify c32 (addl @a (mull (longs 1) 4L)) 1 (add old arg))"}, {"gp->e--", "double", "(back cf64 (addl (load c64 @gp) 8L) (dbls 1) (subd old arg))"}, {"cpa[1]++", "char *", "(back c64 (addl @cpa (mull (longs 1) 8L)) 1L (addl old arg))"},
		// members
		{"g.k", "char", "(load c8s @g)"}, {"g.b", "int", "(load c32 (addl @g 4L))"}, {"g.e", "double", "(load cf64 (addl @g 8L))"}, {"g.t", "int *", "(addl @g 16L)"}, {"g.t[2]", "int", "(load c32 (addl (addl @g 16L) (mull (longs 2) 4L)))"}, {"gp->k", "char", "(load c8s (load c64 @gp))"}, {"gp->b", "int", "(load c32 (addl (load c64 @gp) 4L))"}, {"(*gp).b", "int", "(load c32 (addl (load c64 @gp) 4L))"}, {"(&g)->b", "int", "(load c32 (addl @g 4L))"}, {"gp->next->next", "struct r *", "(load c64 (addl (load c64 (addl (load c64 @gp) 32L)) 32L))"}, {"ga->b", "int", "(load c32 (addl @ga 4L))"}, {"w.x", "int", "(load c32 @w)"}, {"w.y", "double", "(load cf64 @w)"}, {"w.z", "char *", "@w"}, {"w.r.b", "int", "(load c32 (addl @w 4L))"}, {"w.r", "", "@w"}, {"wp->r.t[1]", "int", "(load c32 (addl (addl (load c64 @wp) 16L) (mull (longs 1) 4L)))"}, {"g.w->z[0]", "char", "(load c8s (addl (load c64 (addl @g 56L)) (mull (longs 0) 1L)))"}, {"g.q", "struct q *", "(load c64 (addl @g 48L))"},
		// strings
		{"\"\"", "char *", "@.s0"}, {"*\"ab\"", "char", "(load c8s @.s0)"}, {"&\"ab\"", "", "@.s0"}, {"\"a\" == \"a\"", "int", "(eql @.s0 @.s1)"}, {"sizeof \"abc\"", "unsigned long", "4L"}, {"sizeof \"\"", "unsigned long", "1L"}, {"sizeof \"é\\n\"", "unsigned long", "4L"}, {"sizeof *\"abc\"", "unsigned long", "1L"},
		// sizes
		{"sizeof a", "unsigned long", "20L"}, {"sizeof m", "unsigned long", "24L"}, {"sizeof m[0]", "unsigned long", "12L"}, {"sizeof *m", "unsigned long", "12L"}, {"sizeof &a", "unsigned long", "8L"}, {"sizeof *&a", "unsigned long", "20L"}, {"sizeof (a + 0)", "unsigned long", "8L"}, {"sizeof (0, a)", "unsigned long", "8L"}, {"sizeof g", "unsigned long", "64L"}, {"sizeof *gp", "unsigned long", "64L"}, {"sizeof ga", "unsigned long", "256L"}, {"sizeof w", "unsigned long", "64L"}, {"sizeof p", "unsigned long", "8L"}, {"sizeof *p", "unsigned long", "4L"}, {"sizeof v", "unsigned long", "8L"}, {"sizeof fp", "unsigned long", "8L"}, {"sizeof &fi", "unsigned long", "8L"}, {"sizeof fa", "unsigned long", "16L"}, {"sizeof fi(1)", "unsigned long", "4L"}, {"sizeof fc(1, 2)", "unsigned long", "1L"}, {"sizeof (c = 1)", "unsigned long", "1L"}, {"sizeof (c + 1)", "unsigned long", "4L"}, {"sizeof c++", "unsigned long", "1L"}, {"sizeof g.t", "unsigned long", "12L"}, {"sizeof 'a'", "unsigned long", "4L"}, {"sizeof 1.5", "unsigned long", "8L"}, {"sizeof sizeof a", "unsigned long", "8L"}, {"sizeof (struct r)", "unsigned long", "64L"}, {"sizeof (union w)", "unsigned long", "64L"}, {"sizeof (void*)", "unsigned long", "8L"}, {"sizeof (struct un*)", "unsigned long", "8L"}, {"sizeof (int (*)(void))", "unsigned long", "8L"}, {"sizeof rf()", "unsigned long", "64L"}, {"sizeof (i ? 1 : 2l)", "unsigned long", "8L"},
	} {
		wantExpr(t, x.text, x.of, x.want)
	}
}

// P7.1: conditions, commas, calls and casts.
func TestChoicesAndCalls(t *testing.T) {
	for _, x := range []struct{ text, of, want string }{
		// conditions
		{"(i ? c : d)", "double", "(? (load c32 @i) (dbls (load c8s @c)) (load cf64 @d))"}, {"(p ? 1 : 2)", "int", "(? (load c64 @p) 1 2)"}, {"(d ? 1 : 2u)", "unsigned int", "(? (load cf64 @d) 1 2)"}, {"(a ? c : c)", "int", "(? @a (load c8s @c) (load c8s @c))"},
		{"(i ? p : a)", "int *", "(? (load c32 @i) (load c64 @p) @a)"}, {"(i ? p : 0)", "int *", "(? (load c32 @i) (load c64 @p) 0L)"}, {"(i ? 0 : p)", "int *", "(? (load c32 @i) 0L (load c64 @p))"}, {"(i ? v : p)", "void *", "(? (load c32 @i) (load c64 @v) (load c64 @p))"}, {"(i ? p : v)", "void *", "(? (load c32 @i) (load c64 @p) (load c64 @v))"}, {"(i ? v : v)", "void *", "(? (load c32 @i) (load c64 @v) (load c64 @v))"}, {"(i ? v : 0)", "void *", "(? (load c32 @i) (load c64 @v) 0L)"}, {"(i ? 0ul : v)", "void *", "(? (load c32 @i) 0L (load c64 @v))"}, {"(i ? 0 : 0)", "int", "(? (load c32 @i) 0 0)"}, {"(i ? 0 : 0l)", "long", "(? (load c32 @i) (longs 0) 0L)"}, {"(i ? \"a\" : \"b\")", "char *", "(? (load c32 @i) @.s0 @.s1)"}, {"(i ? fi : v)", "void *", "(? (load c32 @i) @fi (load c64 @v))"}, {"(i ? fi : ei)(2)", "int", "(call int(int) (? (load c32 @i) @fi @ei) 2)"}, {"(i ? g.t : a)", "int *", "(? (load c32 @i) (addl @g 16L) @a)"}, {"(i ? gp : &g)->b", "int", "(load c32 (addl (? (load c32 @i) (load c64 @gp) @g) 4L))"},
		{"i §? ev() : fv()", "void", "(? (load c32 @i) (call none() @ev) (call none() @fv))"}, {"i §? (void) 1 : (void) g", "void", "(? (load c32 @i) 1 @g)"}, {"(i ? 1 : l ? 2 : d)", "double", "(? (load c32 @i) (dbls 1) (? (load c64 @l) (dbls 2) (load cf64 @d)))"}, {"(i ? (c, 1) : 2)", "int", "(? (load c32 @i) (, (load c8s @c) 1) 2)"},
		// commas
		{"(i, d)", "double", "(, (load c32 @i) (load cf64 @d))"}, {"(ev(), 1)", "int", "(, (call none() @ev) 1)"}, {"1 §, ev()", "void", "(, 1 (call none() @ev))"}, {"g, a", "", "(, @g @a)"}, {"(*up, 1)", "int", "(, (load c64 @up) 1)"}, {"(g, i)", "int", "(, @g (load c32 @i))"}, {"(i, a)", "int *", "(, (load c32 @i) @a)"}, {"(1, fi)(2)", "int", "(call int(int) (, 1 @fi) 2)"}, {"(1, 2, 3)", "int", "(, (, 1 2) 3)"}, {"(a, fi, \"s\", 0)", "int", "(, (, (, @a @fi) @.s0) 0)"},
		// calls
		{"fi(1)", "int", "(call int(int) @fi 1)"}, {"(&fi)(1)", "int", "(call int(int) @fi 1)"}, {"(*fi)(1)", "int", "(call int(int) @fi 1)"}, {"(***fi)(1)", "int", "(call int(int) @fi 1)"}, {"fp(1, 2)", "int", "(call int(int,double) (load c64 @fp) 1 (dbls 2))"}, {"(*fp)(1, d)", "int", "(call int(int,double) (load c64 @fp) 1 (load cf64 @d))"}, {"fa[1](c, l)", "int", "(call int(int,double) (load c64 (addl @fa (mull (longs 1) 8L))) (load c8s @c) (dbll (load c64 @l)))"}, {"(*fa)(1, 2)", "int", "(call int(int,double) (load c64 @fa) 1 (dbls 2))"}, {"gp->fn(3)", "int", "(call int(int) (load c64 (addl (load c64 @gp) 40L)) 3)"}, {"g.fn(3)", "int", "(call int(int) (load c64 (addl @g 40L)) 3)"}, {"ed(1, 300)", "double", "(call double(double,int) @ed (dbls 1) (s8 300))"}, {"el(c, uc)", "long", "(call long(long,long) @el (longs (load c8s @c)) (longu (load c8u @uc)))"}, {"fc(70000, -1)", "char", "(call int(int,int) @fc (s16 70000) (u8 (neg 1)))"}, {"ep(p, v)", "void *", "(call long(long,long) @ep (load c64 @p) (load c64 @v))"}, {"ep(0, a)", "void *", "(call long(long,long) @ep 0L @a)"}, {"ep(fi, 0)", "void *", "(call long(long,long) @ep @fi 0L)"}, {"fq(fp, up)", "int *", "(call long(long,long) @fq (load c64 @fp) (load c64 @up))"}, {"*fq(0, 0)", "int", "(load c32 (call long(long,long) @fq 0L 0L))"}, {"fq(v, v)[1]", "int", "(load c32 (addl (call long(long,long) @fq (load c64 @v) (load c64 @v)) (mull (longs 1) 4L)))"}, {"pf(\"a\")", "int *", "(call long(long) (load c64 @pf) @.s0)"}, {"ev§()", "void", "(call none() @ev)"}, {"vf§()", "void", "(call none() (load c64 @vf))"}, {"fi(fi(fi(1)))", "int", "(call int(int) @fi (call int(int) @fi (call int(int) @fi 1)))"}, {"fi((1, 2))", "int", "(call int(int) @fi (, 1 2))"}, {"rf()", "", "(call none() (load c64 @rf))"}, {"uf()", "", "(call none() (load c64 @uf))"}, {"(void) rf()", "", "(call none() (load c64 @rf))"}, {"(rf(), 1)", "int", "(, (call none() (load c64 @rf)) 1)"},
		// casts
		{"(char) 300", "char", "(s8 300)"}, {"(int) c", "int", "(load c8s @c)"}, {"(int) 1.5", "int", "(intd 1.5D)"}, {"(unsigned char) d", "unsigned char", "(u8 (intd (load cf64 @d)))"}, {"(long) (int) l", "long", "(longs (int (load c64 @l)))"}, {"(double) (char) 1", "double", "(dbls (s8 1))"}, {"(char) (char) c", "char", "(load c8s @c)"}, {"(unsigned int) -1", "unsigned int", "(neg 1)"}, {"-(unsigned int) 1", "unsigned int", "(neg 1)"},
		{"(int*) 0", "int *", "0L"}, {"(int*) 0ul", "int *", "0L"}, {"(void*) '\\0'", "void *", "0L"}, {"(int*) v", "int *", "(load c64 @v)"}, {"(char*) p", "char *", "(load c64 @p)"}, {"(int*) a", "int *", "@a"}, {"(void*) fi", "void *", "@fi"}, {"(char*) m[1]", "char *", "(addl @m (mull (longs 1) 12L))"}, {"(struct un*) &g", "struct un *", "@g"}, {"*(long*) p", "long", "(load c64 (load c64 @p))"}, {"((struct r*) v)->b", "int", "(load c32 (addl (load c64 @v) 4L))"}, {"((int (*)(void)) v)()", "int", "(call int() (load c64 @v))"}, {"((void (*)(int*)) fi)(a)", "", "(call none(long) @fi @a)"}, {"(int*) (void*) 0", "int *", "0L"}, {"(int*) (long*) lp", "int *", "(load c64 @lp)"},
		{"(void) 1", "", "1"}, {"(void) g", "", "@g"}, {"(void) *up", "", "(load c64 @up)"}, {"(void) ev()", "", "(call none() @ev)"}, {"(void) fi", "", "@fi"}, {"(void) a", "", "@a"}, {"(void) (void) 2", "", "2"}, {"§(void) p", "void", "(load c64 @p)"},
	} {
		wantExpr(t, x.text, x.of, x.want)
	}
}
