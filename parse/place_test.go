package parse_test

import (
	"testing"

	"alembic/api"
	"alembic/parse"
)

// checkPlaces asks for a unit's trees with their places.
func checkPlaces(t *testing.T, text, want string) {
	t.Helper()
	if got := showPlaces(mustParse(t, text)...); got != want {
		t.Errorf("%q: %s, not %s", text, got, want)
	}
}

// P6.1: a tree's place is that of its first token, or of the sign that makes it.
func TestExpressionPlaces(t *testing.T) {
	for _, x := range []struct{ text, want string }{
		{"a", "a@1:9"}, {"(a)", "a@1:10"}, {"((1.0))", "1.000000000000000@1:11"}, {`"é"`, `"é"@1:9`},
		{"-a", "[-@1:9 a@1:10]"}, {"(-a)", "[-@1:10 a@1:11]"}, {"- (a)", "[-@1:9 a@1:12]"}, {"++ a", "[++@1:9 a@1:12]"}, {"a ++", "[post++@1:11 a@1:9]"}, {"(a)--", "[post--@1:12 a@1:10]"},
		{"a + b", "[+@1:11 a@1:9 b@1:13]"}, {"(a + b) * c", "[*@1:17 [+@1:12 a@1:10 b@1:14] c@1:19]"}, {"a + b + c", "[+@1:15 [+@1:11 a@1:9 b@1:13] c@1:17]"}, {"a, b", "[,@1:10 a@1:9 b@1:12]"},
		{"a = b = c", "[=@1:11 a@1:9 [=@1:15 b@1:13 c@1:17]]"}, {"a <<= b", "[<<=@1:11 a@1:9 b@1:15]"}, {"a ? b : c", "[?@1:11 a@1:9 b@1:13 c@1:17]"}, {"a ? b : c ? d : e", "[?@1:11 a@1:9 b@1:13 [?@1:19 c@1:17 d@1:21 e@1:25]]"},
		{"a[b]", "[index@1:10 a@1:9 b@1:11]"}, {"a [ b ] [c]", "[index@1:17 [index@1:11 a@1:9 b@1:13] c@1:18]"}, {"f(a, b)", "[call@1:10 f@1:9 a@1:11 b@1:14]"}, {"(f)()", "[call@1:12 f@1:10]"}, {"f()()", "[call@1:12 [call@1:10 f@1:9]]"},
		{"a.b", "[.@1:10 a@1:9 b]"}, {"a -> b", "[->@1:11 a@1:9 b]"}, {"a.b->c", "[->@1:12 [.@1:10 a@1:9 b] c]"},
		{"(int) a", "[cast@1:9 <int> a@1:15]"}, {"((int) a)", "[cast@1:10 <int> a@1:16]"}, {"sizeof a", "[sizeof@1:9 a@1:16]"}, {"sizeof (a)", "[sizeof@1:9 a@1:17]"}, {"sizeof (int)", "[sizetype@1:9 <int>]"},
		{"a +\n b", "[+@1:11 a@1:9 b@2:2]"}, {"a\n\n  +\tb", "[+@3:3 a@1:9 b@3:5]"},
	} {
		if x.text != "a, b" {
			checkPlaces(t, "int x = "+x.text+";", "[var@1:1 <int> x "+x.want+"]")
		}
		checkPlaces(t, "int f(){\n       ;"+x.text+";}", "[func@1:1 <int()> f [] [block@1:8 [do@2:8 _] [do@2:9 "+lowered(x.want)+"]]]")
	}
}

// lowered is what stands in a text with places, a line further down.
func lowered(s string) string {
	b := []byte(s)
	for i := 1; i < len(b); i++ {
		if b[i-1] == '@' {
			b[i]++
		}
	}
	return string(b)
}

// P6.1: the places of statements, of declarations, and of what is left out.
func TestStatementPlaces(t *testing.T) {
	for _, x := range []struct{ text, want string }{
		{";", "[do@2:1 _]"}, {"a;", "[do@2:1 a@2:1]"}, {"(a);", "[do@2:1 a@2:2]"}, {"a = b;", "[do@2:1 [=@2:3 a@2:1 b@2:5]]"}, {"{ }", "[block@2:1]"}, {"{ ; { } }", "[block@2:1 [do@2:3 _] [block@2:5]]"},
		{"if (a) b; else c;", "[if@2:1 a@2:5 [do@2:8 b@2:8] [do@2:16 c@2:16]]"}, {"if (a) ;", "[if@2:1 a@2:5 [do@2:8 _] _]"}, {"while (a) ;", "[while@2:1 a@2:8 [do@2:11 _]]"}, {"do ; while (a);", "[dowhile@2:1 [do@2:4 _] a@2:13]"},
		{"for (;;) ;", "[for@2:1 [do@2:6 _] _ _ [do@2:10 _]]"}, {"for (a; b; c) ;", "[for@2:1 [do@2:6 a@2:6] b@2:9 c@2:12 [do@2:15 _]]"}, {"for ((a) + b;;) ;", "[for@2:1 [do@2:6 [+@2:10 a@2:7 b@2:12]] _ _ [do@2:17 _]]"}, {"for (int i = 0;;) ;", "[for@2:1 [var@2:6 <int> i 0@2:14] _ _ [do@2:19 _]]"},
		{"switch (a) { case 1: default: b; }", "[switch@2:1 a@2:9 [case@2:14 1@2:19] [case@2:22 _] [do@2:31 b@2:31]]"}, {"break;", "[break@2:1]"}, {" goto  a;", "[goto a@2:2]"}, {" a : b: ;", "[label@2:2 a] [label@2:6 b] [do@2:9 _]"}, {"return;", "[return@2:1 _]"}, {"return a;", "[return@2:1 a@2:8]"},
		{"int *a = b;", "[var@2:1 <int*> a b@2:10]"}, {"unsigned int a[2] = { { b }, c };", "[var@2:1 <unsigned int[2]> a [list@2:21 [list@2:23 b@2:25] c@2:30]]"}, {"struct s a;", "[var@2:1 <struct s> a _]"},
	} {
		checkPlaces(t, "int f() {\n"+x.text+"}", "[func@1:1 <int()> f [] [block@1:9 "+x.want+"]]")
	}
	for _, x := range []struct{ text, want string }{
		{" int a;", "[var@1:2 <int> a _]"}, {"extern int f(int a);", "[extern@1:1 <int(int)> f [a] _]"}, {"\nunsigned\nint\nf\n(\n)\n{\n}", "[func@2:1 <unsigned int()> f [] [block@7:1]]"}, {"\n\n  struct s { int a; };", "[struct@3:3 s <int> a 0]"}, {"union u { int a; };union u b;", "[union@1:1 u <int> a 0]\n[var@1:20 <union u> b _]"},
		{"int s = \"é€😀\" - a;", `[var@1:1 <int> s [-@1:15 "é€😀"@1:9 a@1:17]]`},
	} {
		checkPlaces(t, x.text, x.want)
	}
}

// P6.1: layer 4's errors and places, ahead of all others.
func TestTokenErrors(t *testing.T) {
	for _, x := range []struct {
		text  string
		place api.Place
		errno api.Errno
	}{
		{"int x = 09;", at(1, 9), api.ErrToken}, {"int x; $", at(1, 8), api.ErrToken}, {"int int $", at(1, 9), api.ErrToken}, {"\"", at(1, 1), api.ErrToken}, {"int x[0];\n@", at(2, 1), api.ErrToken}, {"int /* a */ x;", at(1, 8), api.Errno(0)},
		{"int x;\n\xff", at(2, 1), api.ErrText}, {"int int 09 \xff", at(1, 12), api.ErrText}, {"\x00", at(1, 1), api.ErrToken}, {"#include", at(1, 1), api.ErrToken},
	} {
		if x.errno == api.OK {
			// signs where no comments are
			x.place, x.errno = at(1, 5), api.ErrSyntax
		}
		checkError(t, x.text, x.errno, x.place)
	}
	name := make([]byte, api.MaxName+1)
	for i := range name {
		name[i] = 'a'
	}
	checkError(t, "int int "+string(name), api.ErrLimit, at(1, 9))
	checkUnit(t, "int "+string(name[1:])+";", "[var <int> "+string(name[1:])+" _]")
	long := make([]byte, api.MaxText+1)
	for i := range long {
		long[i] = ' '
	}
	checkError(t, string(long), api.ErrText, api.Place{})
	checkUnit(t, string(long[1:]), "")
	copy(long, "int x;")
	checkUnit(t, string(long[:api.MaxText]), "[var <int> x _]")
	copy(long[api.MaxText-3:], "int")
	checkError(t, string(long[:api.MaxText]), api.ErrSyntax, at(1, api.MaxText+1))
}

// P6.1: an answer shares no memory with another one, and no two lists of one answer share any.
func TestAnswersAreApart(t *testing.T) {
	text := "struct s { int *a[2]; int (*b)(int*, char*); }; int **x[2][3] = {1, {f(a, (int*) b, sizeof (int**))}}; int *f(int *a, int (*b)(int*)) { for (int *c = a;;) { switch (*a) { case 1: c; } } return g()(a, b)[1].c; }"
	want := showPlaces(mustParse(t, text)...)
	for i := range mustParse(t, text) {
		trees := mustParse(t, text)
		others := showPlaces(append(append([]api.Tree{}, trees[:i]...), trees[i+1:]...)...)
		spoil(&trees[i])
		if got := showPlaces(append(append([]api.Tree{}, trees[:i]...), trees[i+1:]...)...); got != others {
			t.Errorf("%s, not %s", got, others)
		}
		if got := showPlaces(mustParse(t, text)...); got != want {
			t.Errorf("%s, not %s", got, want)
		}
	}
	seen := map[any]int{}
	for _, tree := range mustParse(t, text) {
		count(tree, seen)
	}
	for p, n := range seen {
		if n > 1 {
			t.Errorf("%v stands in %d lists", p, n)
		}
	}
}

// count counts how often each address stands in lists.
func count(t api.Tree, seen map[any]int) {
	countTypes(t.Type, seen)
	for i := range t.Fields[:cap(t.Fields)] {
		seen[&t.Fields[:cap(t.Fields)][i]]++
	}
	for _, f := range t.Fields {
		countTypes(f.Type, seen)
	}
	for i := range t.Params[:cap(t.Params)] {
		seen[&t.Params[:cap(t.Params)][i]]++
	}
	for i := range t.Kids[:cap(t.Kids)] {
		seen[&t.Kids[:cap(t.Kids)][i]]++
	}
	for _, k := range t.Kids {
		count(k, seen)
	}
}

func countTypes(t api.Type, seen map[any]int) {
	for i := range t.Kids[:cap(t.Kids)] {
		seen[&t.Kids[:cap(t.Kids)][i]]++
	}
	for _, k := range t.Kids {
		countTypes(k, seen)
	}
}

// spoil writes over all that a tree's lists hold.
func spoil(t *api.Tree) {
	for i := range t.Kids {
		spoil(&t.Kids[i])
	}
	spoilType(&t.Type)
	for i := range t.Fields {
		spoilType(&t.Fields[i].Type)
		t.Fields[i] = api.Field{Name: "spoilt", Off: 7}
	}
	for i := range t.Params {
		t.Params[i] = "spoilt"
	}
	*t = api.Tree{Kind: api.KTName, Name: "spoilt"}
}

func spoilType(t *api.Type) {
	for i := range t.Kids {
		spoilType(&t.Kids[i])
	}
	*t = api.Type{Kind: api.KNumber, Size: 77}
}

// P6.1: what is answered hangs on the text alone, whatever was asked before.
func TestAsksAgain(t *testing.T) {
	text := "int f(int a) { return a + 0x10 + 'é'; }"
	want := showPlaces(mustParse(t, text)...)
	for _, s := range []string{"", "int", "int x[0];", "\xff", "int f() { {{{ }", "int x = ((((1;", text} {
		trees, _, _ := parse.Parse(s)
		for i := range trees {
			spoil(&trees[i])
		}
		if got := showPlaces(mustParse(t, text)...); got != want {
			t.Errorf("behind %q: %s, not %s", s, got, want)
		}
	}
}
