package check_test

import (
	"testing"

	"alembic/api"
)

// P7.1: statements become what is told.
func TestStatements(t *testing.T) {
	for _, x := range []struct{ text, want string }{
		// expressions
		{";", ""}, {";;i;;", "(do (load c32 @i))"}, {"i; c;", "(do (load c32 @i)) (do (load c8s @c))"}, {"g;", "(do @g)"}, {"*gp;", "(do (load c64 @gp))"}, {"*up;", "(do (load c64 @up))"}, {"a;", "(do @a)"}, {"fi;", "(do @fi)"}, {"ev();", "(do (call none() @ev))"}, {"\"x\";", "(do @.s0)"}, {"rf();", "(do (call none() (load c64 @rf)))"}, {"w.r;", "(do @w)"}, {"ga[1];", "(do (addl @ga (mull (longs 1) 64L)))"},
		// blocks
		{"{}", "(block {})"}, {"{;}", "(block {})"}, {"{ i; { c; } }", "(block {(do (load c32 @i)) (block {(do (load c8s @c))})})"}, {"{{}}", "(block {(block {})})"},
		// if
		{"if (i) c;", "(if (load c32 @i) {(do (load c8s @c))} {})"}, {"if (i) ; else ;", "(if (load c32 @i) {} {})"}, {"if (p) {} else { c; }", "(if (load c64 @p) {(block {})} {(block {(do (load c8s @c))})})"}, {"if (d) c; else s;", "(if (load cf64 @d) {(do (load c8s @c))} {(do (load c16s @s))})"}, {"if (a) if (fi) i; else c;", "(if @a {(if @fi {(do (load c32 @i))} {(do (load c8s @c))})} {})"}, {"if (!c) return;", "(if (false (load c8s @c)) {(return _)} {})"},
		// while, do
		{"while (c) i;", "(loop (load c8s @c) {(do (load c32 @i))} {})"}, {"while (d) ;", "(loop (load cf64 @d) {} {})"}, {"while (p) { i; c; }", "(loop (load c64 @p) {(block {(do (load c32 @i)) (do (load c8s @c))})} {})"}, {"do i; while (c);", "(after (load c8s @c) {(do (load c32 @i))} {})"}, {"do ; while (\"a\");", "(after @.s0 {} {})"}, {"do { \"a\"; } while (\"b\");", "(after @.s1 {(block {(do @.s0)})} {})"},
		// for
		{"for (;;) ;", "(block {(loop _ {} {})})"}, {"for (i; c; s) l;", "(block {(do (load c32 @i)) (loop (load c8s @c) {(do (load c64 @l))} {(do (load c16s @s))})})"}, {"for (; p; ) ;", "(block {(loop (load c64 @p) {} {})})"}, {"for (; ; ev()) {}", "(block {(loop _ {(block {})} {(do (call none() @ev))})})"}, {"for (g; ; *up) ;", "(block {(do @g) (loop _ {} {(do (load c64 @up))})})"}, {"for (int z = 1; z; z--) z;", "(block {(do (assign c32 $0 1)) (loop (load c32 $0) {(do (load c32 $0))} {(do (back c32 $0 1 (sub old arg)))})})"}, {"for (int z; ; ) ;", "(block {(loop _ {} {})})"}, {"for (\"a\"; \"b\"; \"c\") \"d\";", "(block {(do @.s0) (loop @.s1 {(do @.s3)} {(do @.s2)})})"}, {"for (struct r z; z.b; z.k) ;", "(block {(loop (load c32 (addl $0 4L)) {} {(do (load c8s $0))})})"},
		// switch
		{"switch (i) {}", "(switch (load c32 @i))"}, {"switch (c) { case 1: }", "(switch (load c8s @c) case:1)"}, {"switch (l) { case 1: default: }", "(switchl (load c64 @l) case:1 default:)"}, {"switch (i) { i; case 1: c; s; break; default: l; }", "(switch (load c32 @i) (do (load c32 @i)) case:1 (do (load c8s @c)) (do (load c16s @s)) (break) default: (do (load c64 @l)))"}, {"switch (i) { ; case 1: ; int z; int y = 2; y; {} x: }", "(switch (load c32 @i) case:1 (do (assign c32 $1 2)) (do (load c32 $1)) (block {}) (label x))"}, {"switch (i) { case 1: switch (c) { case 1: default: } case 2: default: }", "(switch (load c32 @i) case:1 (switch (load c8s @c) case:1 default:) case:2 default:)"}, {"switch (i) { case 1: if (i) { break; } }", "(switch (load c32 @i) case:1 (if (load c32 @i) {(block {(break)})} {}))"}, {"switch (i = 2) { case 1: \"a\"; }", "(switch (assign c32 @i 2) case:1 (do @.s0))"},
		{"switch (i) { case -1: case 2147483648: case 4294967294: case 'a': case 0: }", "(switch (load c32 @i) case:ffffffff case:80000000 case:fffffffe case:61 case:0)"}, {"switch (uc) { case 256: case -1: case 4294967296: }", "(switch (load c8u @uc) case:100 case:ffffffff case:0)"}, {"switch (u) { case -1: case 1l: case 2ul: }", "(switch (load c32 @u) case:ffffffff case:1 case:2)"}, {"switch (l) { case -1: case 4294967294: case 1u: case -1u: }", "(switchl (load c64 @l) case:ffffffffffffffff case:fffffffe case:1 case:ffffffff)"}, {"switch (ul) { case -1: case 18446744073709551614: case 'b': }", "(switchl (load c64 @ul) case:ffffffffffffffff case:fffffffffffffffe case:62)"},
		{"switch (i ? 1 : 2l) { }", "(switchl (? (load c32 @i) (longs 1) 2L))"}, {"switch (us) { default: case 0: }", "(switch (load c16u @us) default: case:0)"}, {"switch (p - p) { }", "(switchl (divl (subl (load c64 @p) (load c64 @p)) 4L))"}, {"switch (1 < 2) { case 1: }", "(switch (lt 1 2) case:1)"}, {"switch (sizeof i) { }", "(switchl 4L)"},
		// jumps
		{"while (i) { break; continue; }", "(loop (load c32 @i) {(block {(break) (continue)})} {})"}, {"do break; while (i);", "(after (load c32 @i) {(break)} {})"}, {"do continue; while (i);", "(after (load c32 @i) {(continue)} {})"}, {"for (;;) break;", "(block {(loop _ {(break)} {})})"}, {"for (;;) if (i) continue;", "(block {(loop _ {(if (load c32 @i) {(continue)} {})} {})})"}, {"for (;;) switch (i) { continue; break; }", "(block {(loop _ {(switch (load c32 @i) (continue) (break))} {})})"}, {"switch (i) { while (i) continue; }", "(switch (load c32 @i) (loop (load c32 @i) {(continue)} {}))"}, {"while (i) { switch (i) { } break; }", "(loop (load c32 @i) {(block {(switch (load c32 @i)) (break)})} {})"}, {"while (i) { while (c) ; continue; }", "(loop (load c32 @i) {(block {(loop (load c8s @c) {} {}) (continue)})} {})"},
		{"x: goto x;", "(label x) (goto x)"}, {"goto x; { x: ; }", "(goto x) (block {(label x)})"}, {"x: y: i; goto y;", "(label x) (label y) (do (load c32 @i)) (goto y)"}, {"x:", "(label x)"}, {"goto x; switch (i) { case 1: x: }", "(goto x) (switch (load c32 @i) case:1 (label x))"}, {"i: goto i; i;", "(label i) (goto i) (do (load c32 @i))"}, {"for (;;) { x: } goto x;", "(block {(loop _ {(block {(label x)})} {})}) (goto x)"}, {"if (i) { x: } else { y: } goto y;", "(if (load c32 @i) {(block {(label x)})} {(block {(label y)})}) (goto y)"}, {"do { x: } while (i); goto x;", "(after (load c32 @i) {(block {(label x)})} {}) (goto x)"},
		{"return;", "(return _)"}, {"return; return;", "(return _) (return _)"},
		// variables
		{"int z;", ""}, {"int z = i;", "(do (assign c32 $0 (load c32 @i)))"}, {"char z = 300;", "(do (assign c8s $0 (s8 300)))"}, {"int *z = 0;", "(do (assign c64 $0 0L))"}, {"int *z = a;", "(do (assign c64 $0 @a))"}, {"char *z = \"ab\";", "(do (assign c64 $0 @.s0))"}, {"int z = z;", "(do (assign c32 $0 (load c32 $0)))"}, {"int *z = (int*) &z;", "(do (assign c64 $0 $0))"}, {"int (*z)(int) = fi; z(1);", "(do (assign c64 $0 @fi)) (do (call int(int) (load c64 $0) 1))"}, {"struct r z; z.b = 1;", "(do (assign c32 (addl $0 4L) 1))"}, {"int z[3]; z[1];", "(do (load c32 (addl $0 (mull (longs 1) 4L))))"}, {"void *z = fi;", "(do (assign c64 $0 @fi))"}, {"struct un *z = 0;", "(do (assign c64 $0 0L))"}, {"int z = (1, 2);", "(do (assign c32 $0 (, 1 2)))"}, {"int z = sizeof z;", "(do (assign c32 $0 (int 4L)))"},
	} {
		wantBody(t, x.text, x.want)
	}
}

// P7.1: a name is the innermost one that is known where it stands.
func TestScopes(t *testing.T) {
	for _, x := range []struct{ text, want string }{
		{"int i = 1; i;", "(do (assign c32 $0 1)) (do (load c32 $0))"}, {"i; char i; i;", "(do (load c32 @i)) (do (load c8s $0))"}, {"{ char i; i; } i;", "(block {(do (load c8s $0))}) (do (load c32 @i))"}, {"int z; { char z; z; { double z; z; } z; } z;", "(block {(do (load c8s $1)) (block {(do (load cf64 $2))}) (do (load c8s $1))}) (do (load c32 $0))"}, {"{ int z; z; } { char z; z; }", "(block {(do (load c32 $0))}) (block {(do (load c8s $1))})"},
		{"int z = 1; { int z = z; }", "(do (assign c32 $0 1)) (block {(do (assign c32 $1 (load c32 $1)))})"}, {"int z; for (char z; z; z) z; z;", "(block {(loop (load c8s $1) {(do (load c8s $1))} {(do (load c8s $1))})}) (do (load c32 $0))"}, {"for (int z; ; ) { char z; z; }", "(block {(loop _ {(block {(do (load c8s $1))})} {})})"}, {"for (int z; ; ) ; for (char z; ; z) ;", "(block {(loop _ {} {})}) (block {(loop _ {} {(do (load c8s $1))})})"}, {"int z; switch (z) { char z; z; } z;", "(switch (load c32 $0) (do (load c8s $1))) (do (load c32 $0))"}, {"switch (i) { char i; i; }", "(switch (load c32 @i) (do (load c8s $0)))"}, {"if (i) { int z; z; } else { char z; z; }", "(if (load c32 @i) {(block {(do (load c32 $0))})} {(block {(do (load c8s $1))})})"},
		{"int f; f;", "(do (load c32 $0))"}, {"f;", "(do @f)"}, {"{ int fi; fi; } fi;", "(block {(do (load c32 $0))}) (do @fi)"}, {"double r; r; struct r z; z.b;", "(do (load cf64 $0)) (do (load c32 (addl $1 4L)))"}, {"x: { int x; x; goto x; }", "(label x) (block {(do (load c32 $0)) (goto x)})"}, {"while (i) { int z; } int z;", "(loop (load c32 @i) {(block {})} {})"}, {"char *s = \"a\"; { char *s = \"b\"; }", "(do (assign c64 $0 @.s0)) (block {(do (assign c64 $1 @.s1))})"},
	} {
		wantBody(t, x.text, x.want)
	}
	for _, x := range []struct{ params, text, want string }{
		{"int i", "i;", "(do (load c32 $0))"}, {"int z, char y", "y; z; { char z; z; }", "(do (load c8s $1)) (do (load c32 $0)) (block {(do (load c8s $2))})"}, {"int f", "f;", "(do (load c32 $0))"}, {"int z", "for (char z; ; ) ;", "(block {(loop _ {} {})})"}, {"int z", "switch (z) { char z; z; }", "(switch (load c32 $0) (do (load c8s $1)))"}, {"int (*h)(int)", "h(1); (*h)(2);", "(do (call int(int) (load c64 $0) 1)) (do (call int(int) (load c64 $0) 2))"}, {"struct r *z", "z->b = 1;", "(do (assign c32 (addl (load c64 $0) 4L) 1))"}, {"int z", "z: goto z; z;", "(label z) (goto z) (do (load c32 $0))"},
	} {
		if got := bodyOf(t, "void", x.params, x.text); got != x.want {
			t.Errorf("(%s) %s\nis  %s\nnot %s", x.params, x.text, got, x.want)
		}
	}
}

// P7.1: what is returned is turned into the result's type.
func TestReturns(t *testing.T) {
	for _, x := range []struct{ result, text, want string }{
		{"int", "return 1;", "(return 1)"}, {"int", "return d;", "(return (intd (load cf64 @d)))"}, {"char", "return 300;", "(return (s8 300))"}, {"double", "return 1;", "(return (dbls 1))"}, {"unsigned long", "return c;", "(return (longs (load c8s @c)))"}, {"int *", "return 0;", "(return 0L)"}, {"int *", "return a;", "(return @a)"}, {"int *", "return v;", "(return (load c64 @v))"}, {"void *", "return fi;", "(return @fi)"}, {"char *", "return \"a\";", "(return @.s0)"}, {"int", "", ""}, {"int", "if (i) return 1; return f();", "(if (load c32 @i) {(return 1)} {}) (return (call int() @f))"}, {"struct un *", "return uq;", "(return (load c64 @uq))"}, {"int", "return (ev(), 2);", "(return (, (call none() @ev) 2))"},
	} {
		if got := bodyOf(t, x.result, "", x.text); got != x.want {
			t.Errorf("%s: %s\nis  %s\nnot %s", x.result, x.text, got, x.want)
		}
	}
	for _, x := range []struct{ result, text string }{
		{"int", "¦return;"}, {"int *", "if (i) ¦return;"}, {"double", "{ ¦return; }"}, {"int", "¦return p;"}, {"int *", "¦return 1;"}, {"int *", "¦return cp;"}, {"int *", "¦return d;"}, {"double", "¦return p;"}, {"int", "¦return rf();"}, {"int", "return ¦g;"}, {"int", "return ev¦();"}, {"int", "return i ¦? ev() : ev();"}, {"struct un *", "¦return gp;"}, {"char *", "¦return ucp;"}, {"int", "¦return fi;"},
		{"void", "¦return 1;"}, {"void", "¦return p;"}, {"void", "¦return 0;"}, {"void", "¦return a;"}, {"void", "¦return fi;"}, {"void", "¦return rf();"}, {"void", "¦return gp->t;"}, {"void", "¦return \"a\";"}, {"void", "if (i) ¦return i;"},
		// a part without a value is told ahead of the return
		{"void", "return ev¦();"}, {"void", "return ¦(void) 1;"}, {"void", "return ¦g;"}, {"void", "return ¦*up;"}, {"void", "return 1 ¦, ev();"}, {"void", "return i ¦? ev() : ev();"}, {"void", "return (ev¦());"}, {"void", "return ga¦[1];"}, {"void", "{ return ev¦(); }"},
	} {
		wantError(t, api.ErrType, prelude+x.result+" f() { "+x.text+" }")
	}
}

// P7.1: statements that can't stand there.
func TestStatementFaults(t *testing.T) {
	for _, x := range []struct {
		errno api.Errno
		text  string
	}{
		{api.ErrType, "if (¦g) ;"}, {api.ErrType, "if (ev¦()) ;"}, {api.ErrType, "if (rf¦()) ;"}, {api.ErrType, "while (¦g) ;"}, {api.ErrType, "while (rf¦()) ;"}, {api.ErrType, "do ; while (ev¦());"}, {api.ErrType, "do ; while (uf¦());"}, {api.ErrType, "for (; ¦g; ) ;"}, {api.ErrType, "for (; rf¦(); ) ;"}, {api.ErrType, "for (; 1 ¦, ev(); ) ;"},
		{api.ErrType, "switch (¦p) {}"}, {api.ErrType, "switch (¦d) {}"}, {api.ErrType, "switch (¦a) {}"}, {api.ErrType, "switch (¦fi) {}"}, {api.ErrType, "switch (¦g) {}"}, {api.ErrType, "switch (ev¦()) {}"}, {api.ErrType, "switch (rf¦()) {}"}, {api.ErrType, "switch (¦1.5) {}"}, {api.ErrType, "switch (1 ¦, d) {}"},
		{api.ErrConst, "switch (i) { case ¦i: }"}, {api.ErrConst, "switch (i) { case 1 ¦+ 1: }"}, {api.ErrConst, "switch (i) { case ¦1.0: }"}, {api.ErrConst, "switch (i) { case ¦-1.0: }"}, {api.ErrConst, "switch (i) { case ¦- -1: }"}, {api.ErrConst, "switch (i) { case ¦~1: }"}, {api.ErrConst, "switch (i) { case ¦sizeof i: }"}, {api.ErrConst, "switch (i) { case ¦sizeof (int): }"}, {api.ErrConst, "switch (i) { case ¦(int) 1: }"}, {api.ErrConst, "switch (i) { case ¦\"a\": }"}, {api.ErrConst, "switch (i) { case 1 ¦? 2 : 3: }"}, {api.ErrConst, "switch (i) { case (1 ¦, 2): }"}, {api.ErrConst, "switch (i) { case ¦fi: }"}, {api.ErrConst, "switch (i) { case ¦-i: }"},
		{api.ErrConst, "switch (i) { case 1: ¦case 1: }"}, {api.ErrConst, "switch (i) { case 1: i; case 2: ¦case 1: nix; }"}, {api.ErrConst, "switch (i) { case -1: ¦case 4294967295: }"}, {api.ErrConst, "switch (c) { case 0: ¦case 4294967296: }"}, {api.ErrConst, "switch (l) { case 1: ¦case 1ul: }"}, {api.ErrConst, "switch (ul) { case -1: ¦case -1l: }"}, {api.ErrConst, "switch (i) { case 97: ¦case 'a': }"}, {api.ErrConst, "switch (i) { default: ¦default: }"}, {api.ErrConst, "switch (i) { default: case 1: ¦default: }"}, {api.ErrConst, "switch (i) { case 0: default: ¦case 0: }"}, {api.ErrConst, "switch (i) { case 1: switch (i) { case 1: default: } default: ¦case 1: }"},
		{api.ErrSyntax, "¦break;"}, {api.ErrSyntax, "¦continue;"}, {api.ErrSyntax, "if (i) ¦break;"}, {api.ErrSyntax, "{ ¦continue; }"}, {api.ErrSyntax, "switch (i) { ¦continue; }"}, {api.ErrSyntax, "switch (i) { case 1: if (i) ¦continue; }"}, {api.ErrSyntax, "while (i) ; ¦break;"}, {api.ErrSyntax, "switch (i) { } ¦break;"}, {api.ErrSyntax, "do ; while (i); ¦continue;"}, {api.ErrSyntax, "for (;;) ; ¦continue;"}, {api.ErrSyntax, "while (i) switch (i) { } ¦break;"}, {api.ErrSyntax, "switch (i) { while (i) ; ¦continue; }"},
		{api.ErrName, "¦goto x;"}, {api.ErrName, "{ ¦goto i; }"}, {api.ErrName, "x: ¦goto y;"}, {api.ErrName, "¦goto fi;"}, {api.ErrName, "x: ¦x:"}, {api.ErrName, "x: { ¦x: ; }"}, {api.ErrName, "{ x: } { ¦x: }"}, {api.ErrName, "switch (i) { x: case 1: ¦x: }"},
		{api.ErrName, "int z; ¦int z;"}, {api.ErrName, "int z; ¦char z = 1;"}, {api.ErrName, "{ int z; ¦int z; }"}, {api.ErrName, "for (int z; ; ) { int y; ¦int y; }"}, {api.ErrName, "switch (i) { int z; case 1: ¦int z; }"}, {api.ErrName, "int z; { int y; } int y; ¦int z;"}, {api.ErrName, "int z; if (i) ; x: ¦int z;"},
		{api.ErrType, "¦void z;"}, {api.ErrType, "¦struct un z;"}, {api.ErrType, "¦struct un z[2];"}, {api.ErrType, "¦union r z;"}, {api.ErrType, "¦struct w z;"}, {api.ErrType, "¦void z[2];"}, {api.ErrType, "¦void z = 1;"}, {api.ErrType, "¦int z[1048576];"}, {api.ErrType, "¦char z[1025][1024];"}, {api.ErrType, "¦struct r z[20000];"}, {api.ErrType, "for (¦void z; ; ) ;"}, {api.ErrType, "for (¦struct un z; ; ) ;"},
		{api.ErrType, "int z = ¦{1};"}, {api.ErrType, "int z[2] = ¦{1, 2};"}, {api.ErrType, "struct r z = ¦{1};"}, {api.ErrType, "for (int z = ¦{1}; ; ) ;"}, {api.ErrType, "¦struct r z = g;"}, {api.ErrType, "¦int z[2] = a;"}, {api.ErrType, "¦char z[2] = \"a\";"}, {api.ErrType, "¦int z = p;"}, {api.ErrType, "¦int *z = 1;"}, {api.ErrType, "¦int *z = i;"}, {api.ErrType, "¦int *z = cp;"}, {api.ErrType, "¦unsigned char *z = \"a\";"}, {api.ErrType, "¦int *z = &z;"}, {api.ErrType, "int z = ¦g;"}, {api.ErrType, "int z = ev¦();"}, {api.ErrType, "¦int z = rf();"}, {api.ErrType, "¦int *z = -0;"}, {api.ErrType, "for (¦int z = p; ; ) ;"}, {api.ErrType, "¦double z = p;"}, {api.ErrType, "¦int (*z)(int) = fp;"},
	} {
		wantFault(t, x.errno, x.text)
	}
	wantError(t, api.ErrName, "void f(int z) { ¦int z; }")
	wantError(t, api.ErrName, "void f(int z) { { int z; } for (int z; ; ) ; ¦char z = z; }")
	wantError(t, api.ErrName, "void f(int y, int z) { x: ¦int y; }")
}
