package parse_test

import (
	"fmt"
	"testing"
)

// P6.1: expressions of each form.
func TestExpressions(t *testing.T) {
	for _, x := range []struct{ text, want string }{
		// first
		{"a", "a"}, {"0", "0"}, {"(a)", "a"}, {"((((a))))", "a"}, {"1.5", "1.500000000000000"}, {`"a\n"`, `"a\n"`}, {`""`, `""`}, {"'a'", "97"}, {"'é'", "233"}, {`'\xff'`, "255"},
		{"7u", "7u"}, {"7U", "7u"}, {"7l", "7l"}, {"7L", "7l"}, {"7ul", "7ul"}, {"7lu", "7ul"}, {"7LU", "7ul"}, {"7Ul", "7ul"}, {"0x1FuL", "31ul"}, {"010l", "8l"}, {"0xabcdef", "11259375"},
		{"18446744073709551615", "18446744073709551615"}, {"0xffffffffffffffffUL", "18446744073709551615ul"},
		// post
		{"a[1]", "[index a 1]"}, {"a[b, c]", "[index a [, b c]]"}, {"a[1][2]", "[index [index a 1] 2]"}, {"a[b[c]]", "[index a [index b c]]"}, {"1[a]", "[index 1 a]"},
		{"f()", "[call f]"}, {"f(a)", "[call f a]"}, {"f(a, b)", "[call f a b]"}, {"f((a, b), c)", "[call f [, a b] c]"}, {"f(a = b, c ? d : e)", "[call f [= a b] [? c d e]]"}, {"f()()", "[call [call f]]"}, {"f(g(a), b)", "[call f [call g a] b]"}, {"1(2)", "[call 1 2]"}, {`"a"()`, `[call "a"]`},
		{"a.b", "[. a b]"}, {"a->b", "[-> a b]"}, {"a.b.c", "[. [. a b] c]"}, {"a->b.c->d", "[-> [. [-> a b] c] d]"},
		{"a++", "[post++ a]"}, {"a--", "[post-- a]"}, {"a++ --", "[post-- [post++ a]]"}, {"a.b++[1](2)->c", "[-> [call [index [post++ [. a b]] 1] 2] c]"}, {"(a + b)[1]", "[index [+ a b] 1]"}, {"(*f)(a)", "[call [* f] a]"},
		// unary
		{"-a", "[- a]"}, {"~a", "[~ a]"}, {"!a", "[! a]"}, {"*a", "[* a]"}, {"&a", "[& a]"}, {"++a", "[++ a]"}, {"--a", "[-- a]"}, {"- -a", "[- [- a]]"}, {"-~!*&a", "[- [~ [! [* [& a]]]]]"}, {"- --a", "[- [-- a]]"}, {"++ ++a", "[++ [++ a]]"}, {"**a", "[* [* a]]"}, {"& &a", "[& [& a]]"},
		{"-a[1]", "[- [index a 1]]"}, {"*a++", "[* [post++ a]]"}, {"(*a)++", "[post++ [* a]]"}, {"&a.b", "[& [. a b]]"}, {"-f(a)", "[- [call f a]]"}, {"++a++", "[++ [post++ a]]"},
		{"a - -b", "[- a [- b]]"}, {"a---b", "[- [post-- a] b]"}, {"a+++b", "[+ [post++ a] b]"}, {"a & &b", "[& a [& b]]"}, {"a * *b", "[* a [* b]]"}, {"a - - -b", "[- a [- [- b]]]"},
		// sizeof and casts
		{"sizeof a", "[sizeof a]"}, {"sizeof (a)", "[sizeof a]"}, {"sizeof (a)[1]", "[sizeof [index a 1]]"}, {"sizeof a++", "[sizeof [post++ a]]"}, {"sizeof a + b", "[+ [sizeof a] b]"}, {"sizeof -a", "[sizeof [- a]]"}, {"sizeof sizeof a", "[sizeof [sizeof a]]"}, {"sizeof *a", "[sizeof [* a]]"}, {"sizeof (a) + b", "[+ [sizeof a] b]"}, {"sizeof (a, b)", "[sizeof [, a b]]"},
		{"sizeof (int)", "[sizetype <int>]"}, {"sizeof (int*)", "[sizetype <int*>]"}, {"sizeof (int) * a", "[* [sizetype <int>] a]"}, {"sizeof (int) - a", "[- [sizetype <int>] a]"}, {"sizeof (int) & a", "[& [sizetype <int>] a]"}, {"-sizeof (int)", "[- [sizetype <int>]]"}, {"sizeof sizeof (int)", "[sizeof [sizetype <int>]]"}, {"sizeof ((int) a)", "[sizeof [cast <int> a]]"}, {"sizeof (struct s)", "[sizetype <struct s>]"}, {"sizeof (void)", "[sizetype <void>]"}, {"sizeof (int) ? a : b", "[? [sizetype <int>] a b]"}, {"sizeof (int) = a", "[= [sizetype <int>] a]"},
		{"(int) a", "[cast <int> a]"}, {"(int) -x * y", "[* [cast <int> [- x]] y]"}, {"(int) a + b", "[+ [cast <int> a] b]"}, {"(int) a[1]", "[cast <int> [index a 1]]"}, {"((int) a)[1]", "[index [cast <int> a] 1]"}, {"(int) (long) a", "[cast <int> [cast <long> a]]"}, {"-(int) a", "[- [cast <int> a]]"}, {"(int) (a)", "[cast <int> a]"}, {"(int) sizeof (int)", "[cast <int> [sizetype <int>]]"}, {"(int) *a", "[cast <int> [* a]]"}, {"(int) & a", "[cast <int> [& a]]"}, {"(a) - b", "[- a b]"}, {"(a) * b", "[* a b]"}, {"(a)(b)", "[call a b]"},
		{"(void) a", "[cast <void> a]"}, {"(void*) 0", "[cast <void*> 0]"}, {"(unsigned) a", "[cast <unsigned int> a]"}, {"(unsigned char) a", "[cast <unsigned char> a]"}, {"(signed long*) a", "[cast <long*> a]"}, {"(union u**) a", "[cast <union u**> a]"}, {"(double) a", "[cast <double> a]"},
		{"(int (*)()) a", "[cast <int()*> a]"}, {"(int (*)(void)) a", "[cast <int()*> a]"}, {"(int* (*)(int, char*)) a", "[cast <int*(int, char*)*> a]"}, {"(void (*)(void (*)(int))) a", "[cast <void(void(int)*)*> a]"}, {"(int (*)(void*)) a", "[cast <int(void*)*> a]"}, {"(int (*)(void, int)) a", "[cast <int(void, int)*> a]"}, {"(int (*)(int, void)) a", "[cast <int(int, void)*> a]"},
		// conditions
		{"a ? b : c", "[? a b c]"}, {"a ? b : c ? d : e", "[? a b [? c d e]]"}, {"a ? b ? c : d : e", "[? a [? b c d] e]"}, {"a ? b, c : d", "[? a [, b c] d]"}, {"a ? b = c : d", "[? a [= b c] d]"}, {"a || b ? c : d || e", "[? [|| a b] c [|| d e]]"}, {"(a ? b : c) ? d : e", "[? [? a b c] d e]"}, {"a ? b : (c, d)", "[? a b [, c d]]"},
		// assignments
		{"a = b", "[= a b]"}, {"a = b = c", "[= a [= b c]]"}, {"a = b += c -= d", "[= a [+= b [-= c d]]]"}, {"a = b = c ? d : e, f", "[, [= a [= b [? c d e]]] f]"}, {"a ? b : c = d", "[= [? a b c] d]"}, {"a + b = c", "[= [+ a b] c]"}, {"(a = b) = c", "[= [= a b] c]"}, {"a = b + c", "[= a [+ b c]]"}, {"*a = *b", "[= [* a] [* b]]"}, {"(int) a = b", "[= [cast <int> a] b]"}, {"a = b ? c = d : e", "[= a [? b [= c d] e]]"},
		// commas
		{"a, b", "[, a b]"}, {"a, b, c", "[, [, a b] c]"}, {"a, (b, c)", "[, a [, b c]]"}, {"a = b, c = d", "[, [= a b] [= c d]]"}, {"a ? b : c, d", "[, [? a b c] d]"},
	} {
		checkExpr(t, x.text, x.want)
	}
}

// levels are the operations of two, from the loosest level to the tightest.
var levels = [][]string{{"||"}, {"&&"}, {"|"}, {"^"}, {"&"}, {"==", "!="}, {"<", "<=", ">", ">="}, {"<<", ">>"}, {"+", "-"}, {"*", "/", "%"}}

// assigns are the signs of assignments.
var assigns = []string{"=", "+=", "-=", "*=", "/=", "%=", "&=", "|=", "^=", "<<=", ">>="}

// P6.1: each operation of two beside each other one, by their levels, and from the left.
func TestLevels(t *testing.T) {
	for i, first := range levels {
		for _, op := range first {
			checkExpr(t, "a "+op+" b", fmt.Sprintf("[%s a b]", op))
			checkExpr(t, "-a "+op+" !b", fmt.Sprintf("[%s [- a] [! b]]", op))
			checkExpr(t, "a "+op+" b ? c "+op+" d : e "+op+" f", fmt.Sprintf("[? [%s a b] [%s c d] [%s e f]]", op, op, op))
			for j, second := range levels {
				for _, other := range second {
					want := fmt.Sprintf("[%s [%s a b] c]", other, op)
					if j > i {
						want = fmt.Sprintf("[%s a [%s b c]]", op, other)
					}
					checkExpr(t, "a "+op+" b "+other+" c", want)
					checkExpr(t, "a "+op+" (b "+other+" c)", fmt.Sprintf("[%s a [%s b c]]", op, other))
				}
			}
			for _, sign := range assigns {
				checkExpr(t, "a "+op+" b "+sign+" c "+op+" d", fmt.Sprintf("[%s [%s a b] [%s c d]]", sign, op, op))
			}
		}
	}
	for _, sign := range assigns {
		checkExpr(t, "a "+sign+" b", fmt.Sprintf("[%s a b]", sign))
		for _, other := range assigns {
			checkExpr(t, "a "+sign+" b "+other+" c", fmt.Sprintf("[%s a [%s b c]]", sign, other))
		}
	}
	checkExpr(t, "a || b && c | d ^ e & f == g < h << i + j * k", "[|| a [&& b [| c [^ d [& e [== f [< g [<< h [+ i [* j k]]]]]]]]]]")
	checkExpr(t, "a * b + c << d < e == f & g ^ h | i && j || k", "[|| [&& [| [^ [& [== [< [<< [+ [* a b] c] d] e] f] g] h] i] j] k]")
	checkExpr(t, "a + b * c - d / e % f + g", "[+ [- [+ a [* b c]] [% [/ d e] f]] g]")
}
