package check_test

import (
	"testing"

	"alembic/api"
)

// P7.1: expressions whose parts don't fit: ErrType where the stroke stands.
func TestTypeFaults(t *testing.T) {
	for _, s := range []string{
		// parts without a value: at the part
		"-ev¦()", "~¦g", "!¦g", "*ev¦()", "*¦g", "!¦*up", "-¦*gp", "ev¦() + 1", "1 + ev¦()", "¦g + 1", "1 * ¦g", "¦g == g", "¦g() + 1", "ev¦() && 1", "1 || ¦g", "1, ¦g", "1, ¦*up", "i = ¦g", "i = ev¦()", "i += ¦w", "p += ev¦()", "¦g ? 1 : 2", "ev¦() ? 1 : 2", "i ? ¦g : g", "i ? 1 : ev¦()", "i ? ev¦() : 1", "i ? 1 : ¦g", "fi(¦g)", "fi(ev¦())", "¦g(1)", "ev¦()()", "a[¦g]", "¦g[1]", "ev¦()[1]", "¦g->b", "ev¦()->b", "(int) ¦g", "(int) ev¦()", "(int*) ¦g", "(double) ¦*up", "-(i ¦? ev() : ev())", "-(1 ¦, ev())", "!¦(void) 1", "ga¦[1] + 1",
		// - ~ !
		"¦-p", "¦-a", "¦-fi", "¦-\"a\"", "¦~p", "¦~d", "¦~1.5", "¦!rf()", "¦-rf()", "1 + ¦-v",
		// &
		"¦&1", "¦&(i + 1)", "1 ¦== &i", "¦& &i", "¦&i++", "¦&++i", "¦&(i = 1)", "¦&fi(1)", "¦&ev()", "¦&(void) 1", "¦&(int) i", "¦&(i, i)", "¦&(i ? i : i)", "¦&(i ? ev() : ev())", "¦&sizeof i", "¦&1.5", "¦&rf()", "&*¦&1", "¦&-i", "¦&(1 < 2)", "¦&(i && i)",
		// *
		"¦*i", "¦*1", "¦*d", "¦*v", "*¦**p", "¦**p", "¦*rf()", "¦*(p - p)", "*(1 + ¦*v)", "¦**cp", "¦*0",
		// ++ --
		"¦++1", "¦--(i + 1)", "1¦++", "(i + 1)¦--", "a¦++", "¦++a", "fi¦++", "¦--fi", "g¦++", "¦++g", "(*gp)¦++", "ev()¦++", "(i++)¦++", "¦++i++", "(i = 1)¦++", "¦--(i, i)", "\"a\"¦++", "m[1]¦--", "v¦++", "¦--v", "up¦++", "¦++up", "fp¦++", "¦--fp", "vf¦--", "g.q¦++", "(*up)¦++", "rf()¦++",
		// * / % & ^ |
		"p ¦* 2", "2 ¦* p", "p ¦/ p", "d ¦% 2", "2 ¦% d", "p ¦% 2", "d ¦& 1", "1 ¦| d", "d ¦^ d", "p ¦& 1", "1 ¦^ a", "fi ¦| 1", "0 ¦* p", "rf() ¦* 1", "1 ¦* rf()", "\"a\" ¦/ 1", "i * (d ¦% 2)",
		// + -
		"p ¦+ p", "p ¦+ a", "p ¦+ d", "d ¦+ p", "p ¦- d", "1 ¦- p", "d ¦- p", "v ¦+ 1", "1 ¦+ v", "v ¦- 1", "fi ¦+ 1", "1 ¦- fi", "fp ¦+ 1", "up ¦+ 1", "1 ¦+ up", "up ¦- 1", "p ¦- cp", "p ¦- v", "v ¦- p", "v ¦- v", "up ¦- uq", "fi ¦- ei", "gp ¦- up", "m ¦- a", "&a ¦- a", "p ¦+ 0.0", "rf() ¦+ 1", "p ¦- pp", "ucp ¦- cp", "0 ¦- p",
		// << >>
		"d ¦<< 1", "1 ¦<< d", "1 ¦>> p", "p ¦>> 1", "1.0 ¦>> 1", "a ¦<< 1", "rf() ¦<< 1", "1 ¦>> rf()", "1 ¦<< 1.0",
		// comparisons
		"p ¦== i", "v ¦== 1", "1 ¦!= v", "v ¦== i", "d ¦== v", "v ¦== rf()", "rf() ¦!= v", "p ¦== 1", "1 ¦!= p", "p ¦== d", "p ¦== 0.0", "p ¦== cp", "p ¦== -0", "p ¦!= pp", "p ¦< v", "v ¦> p", "p ¦< 0", "0 ¦>= p", "p ¦<= cp", "p ¦> 1", "fi ¦== p", "fi ¦== ev", "fi ¦< ed", "up ¦== gp", "m ¦== a", "&a ¦== a", "a ¦== i", "g.b ¦== p", "p ¦== (0, 0)", "p ¦== (int) 0", "p ¦== (1 - 1)", "rf() ¦== 1", "rf() ¦== rf()", "d ¦< p", "cp ¦== ucp", "cp ¦== \"a\"[0]", "vv ¦< v",
		// && ||
		"rf() ¦&& 1", "1 ¦|| rf()", "uf() ¦|| 1",
		// =
		"1 ¦= 2", "i + 1 ¦= 2", "a ¦= a", "a ¦= 0", "g ¦= 1", "*gp ¦= 1", "*up ¦= 1", "fi ¦= fi", "\"a\" ¦= 1", "ev() ¦= 1", "i++ ¦= 1", "(i, i) ¦= 1", "(i ? i : i) ¦= 1", "fi(1) ¦= 1", "(int) i ¦= 1", "&i ¦= p", "sizeof i ¦= 1", "m[1] ¦= a", "(i = 1) ¦= 1", "g.t ¦= a",
		"i ¦= p", "p ¦= i", "p ¦= 1", "p ¦= 0.0", "p ¦= d", "d ¦= p", "p ¦= cp", "cp ¦= ucp", "p ¦= pp", "pp ¦= vv", "vv ¦= pp", "p ¦= fi", "fp ¦= fi", "fp ¦= 1", "gp ¦= up", "gp ¦= g.q", "i ¦= a", "i ¦= fi", "i ¦= \"a\"", "p ¦= \"a\"", "ucp ¦= \"a\"", "p ¦= m", "p ¦= &a", "p ¦= (0, 0)", "p ¦= (int) 0", "p ¦= -0", "i ¦= rf()", "gp ¦= rf()", "p ¦= rf()", "wp ¦= gp", "gp ¦= bad", "gp ¦= &w.r.next", "i = p ¦= 1", "p ¦= i = 1",
		// operations with =
		"1 ¦+= 2", "a ¦+= 1", "g ¦+= 1", "fi ¦-= 1", "*up ¦*= 1", "i++ ¦+= 1", "ev() ¦+= 1", "i ¦+= p", "i ¦-= a", "p ¦+= p", "p ¦-= p", "p ¦+= d", "p ¦-= 1.0", "p ¦*= 2", "p ¦/= 2", "p ¦%= 2", "p ¦&= 2", "p ¦|= 2", "p ¦^= 2", "p ¦<<= 2", "p ¦>>= 2", "v ¦+= 1", "v ¦-= 1", "up ¦+= 1", "fp ¦-= 1", "i ¦%= d", "d ¦%= i", "d ¦&= 1", "d ¦|= 1", "d ¦^= 1", "d ¦<<= 1", "d ¦>>= 1", "i ¦<<= d", "i ¦>>= 1.0", "i ¦*= p", "d ¦/= p", "i ¦+= rf()", "i ¦&= a", "i ¦<<= p", "m[0] ¦-= 1", "i = p ¦*= 2",
		// conditions
		"rf¦() ? 1 : 2", "i ¦? p : 1", "i ¦? v : 1", "i ¦? 1 : v", "i ¦? v : d", "i ¦? v : rf()", "i ¦? 1 : p", "i ¦? p : cp", "i ¦? p : d", "i ¦? 0.0 : p", "i ¦? rf() : rf()", "i ¦? rf() : 1", "i ¦? p : -0", "i ¦? p : (0, 0)", "i ¦? fi : ev", "i ¦? fi : 1", "i ¦? up : gp", "i ¦? p : i", "i ¦? ucp : \"a\"", "i ? 1 : (i ¦? p : 2)", "i ¦? m : a", "i ¦? pp : vv",
		// calls
		"i¦()", "1¦()", "p¦()", "v¦()", "a¦(1)", "\"a\"¦()", "gp¦(1)", "(i + 1)¦(1)", "rf()¦()", "(&fp)¦(1, 2)", "g.b¦(1)", "fi¦()", "fi¦(1, 2)", "ev¦(1)", "fp¦(1)", "fp¦(1, 2, 3)", "fi(fi¦())", "gp->fn¦()", "fq¦(0)", "(*fi)¦()",
		"fi(¦p)", "fi(¦a)", "fi(¦fi)", "fi(rf¦())", "fp(1, ¦p)", "fp(¦p, p)", "ep(¦1, p)", "ep(0, ¦1)", "ep(0, ¦cp)", "ep(¦d, p)", "ep(0, ¦-0)", "ep(0, ¦&a)", "fq(¦fi, up)", "fq(0, ¦gp)", "pf(¦p)", "pf(¦'a')", "ed(1, ¦\"a\")", "fi(fi(¦p))", "odd(¦1, 2)", "odd(rf¦(), rf())", "ep(¦1, 1)", "fi((¦p))", "fi(p ¦+ 1)", "fi(i ¦? p : p)", "fi(¦\"a\")", "ep(0, 1 ¦+ 1)",
		// indices
		"i¦[1]", "1¦[2]", "p¦[p]", "a¦[a]", "d¦[1]", "p¦[d]", "d¦[p]", "v¦[1]", "1¦[v]", "up¦[1]", "fi¦[1]", "fp¦[0]", "1¦[fi]", "p[1]¦[2]", "a[0]¦[0]", "rf()¦[1]", "p¦[rf()]", "p[1¦[2]]", "g.b¦[1]",
		// members
		"i¦.b", "p¦.b", "gp¦.b", "a¦.b", "fi¦.b", "ev()¦.b", "(1)¦.b", "(*up)¦.b", "(*bad)¦.k", "rf()¦.b", "((void) 1)¦.b", "g.b¦.c", "ga¦.b", "\"a\"¦.b", "(i, gp)¦.b", "i¦->b", "p¦->b", "a¦->b", "up¦->b", "bad¦->k", "v¦->b", "fi¦->b", "vf¦->b", "1¦->b", "rf()¦->b", "uf()¦->b", "(&gp)¦->b", "g.b¦->c", "g.q¦->c", "gp->b¦->c", "g.t¦.x", "g.t¦->x", "w.z¦->x",
		// casts
		"¦(int) p", "¦(long) p", "¦(long) v", "¦(int) a", "¦(int) fi", "¦(int) \"a\"", "¦(double) p", "¦(int*) 1", "¦(int*) i", "¦(int*) l", "¦(int*) 0.0", "¦(int*) d", "¦(void*) -0", "¦(int*) (int) 0", "¦(int*) (0, 0)", "¦(int) rf()", "¦(int*) rf()", "¦(struct r) 1", "¦(struct r) rf()", "¦(union w) i", "¦(struct un) 1", "¦(int (*)(void)) 1", "¦(unsigned char) p", "1 + ¦(int) p", "(long) ¦(int) p",
		// sizes
		"¦sizeof (void)", "¦sizeof (struct un)", "¦sizeof (union r)", "¦sizeof (struct w)", "¦sizeof fi", "¦sizeof *fi", "¦sizeof *fp", "¦sizeof ev()", "¦sizeof ((void) 1)", "¦sizeof *up", "¦sizeof *bad", "¦sizeof uf()", "¦sizeof (i ? ev() : ev())", "sizeof ¦sizeof (void)", "¦sizeof (1, ev())", "sizeof (1 + ¦*i)", "sizeof ¦-p", "sizeof (a + ev¦())",
	} {
		wantFault(t, api.ErrType, s+";")
	}
}

// P7.1: names that aren't known.
func TestNameFaults(t *testing.T) {
	for _, s := range []string{
		"¦nix;", "i + ¦nix;", "¦nix = 1;", "¦nix();", "fi(¦nix);", "sizeof ¦nix;", "(int) ¦nix;", "&¦nix;", "¦nix.b;", "¦nix->b;", "g¦.nix;", "gp¦->nix;", "w¦.b;", "g.w¦->k;", "(*gp)¦.nix;", "a[¦nix];", "¦nix[1];", "¦nix++;", "i ? ¦nix : 1;", "¦r;", "¦un;", "¦get;", "return ¦nix;", "{ int z; } ¦z;", "for (int z; ; ) ; ¦z;", "switch (i) { int z; } ¦z;", "¦z; int z;", "while (¦nix) ;", "int z = ¦nix;", "{ { int z; } ¦z; }", "nix: ¦nix;", "{ int z; { ; } } { ¦z; }", "¦f0();", "¦main();",
	} {
		wantFault(t, api.ErrName, s)
	}
}

// P7.1: of several errors the first one is told: the parts of a tree from the left to the right, their values right behind them, and then the tree itself.
func TestOrderOfFaults(t *testing.T) {
	for _, x := range []struct {
		errno api.Errno
		text  string
	}{
		{api.ErrName, "¦nix + p * 2;"}, {api.ErrType, "p ¦* 2 + nix;"}, {api.ErrName, "p * ¦nix;"}, {api.ErrType, "¦g * nix;"}, {api.ErrType, "1 * ¦g;"}, {api.ErrType, "p * ¦g;"}, {api.ErrType, "ev¦() + nix;"}, {api.ErrType, "¦g + g;"},
		{api.ErrType, "¦g && nix;"}, {api.ErrName, "rf() && ¦nix;"}, {api.ErrName, "ev(), ¦nix;"}, {api.ErrName, "g, ¦nix;"},
		// what is assigned to has no value; the other part has
		{api.ErrName, "1 = ¦nix;"}, {api.ErrType, "1 = ¦g;"}, {api.ErrType, "1 = ev¦();"}, {api.ErrType, "g = ¦w;"}, {api.ErrType, "ev() = ev¦();"}, {api.ErrName, "g += ¦nix;"}, {api.ErrType, "fi += ¦g;"}, {api.ErrType, "1 ¦= p;"}, {api.ErrName, "¦nix = g;"}, {api.ErrType, "¦-p = nix;"},
		// conditions
		{api.ErrType, "¦g ? nix : nix;"}, {api.ErrType, "rf¦() ? nix : nix;"}, {api.ErrName, "1 ? g : ¦nix;"}, {api.ErrName, "1 ? ev() : ¦nix;"}, {api.ErrType, "1 ? ¦g : w;"}, {api.ErrType, "1 ? ev¦() : g;"}, {api.ErrType, "1 ? ¦g : ev();"}, {api.ErrType, "1 ? p : ¦g;"}, {api.ErrName, "¦nix ? nix2 : nix3;"}, {api.ErrName, "1 ? ¦nix2 : nix3;"}, {api.ErrType, "ev¦() ? nix : nix2;"},
		// calls
		{api.ErrName, "¦nix(nix2);"}, {api.ErrName, "i(¦nix);"}, {api.ErrType, "i(¦g);"}, {api.ErrType, "g(¦w);"}, {api.ErrType, "¦g(i);"}, {api.ErrType, "ev()(¦g);"}, {api.ErrType, "ev¦()(i);"}, {api.ErrName, "fi(1, ¦nix);"}, {api.ErrType, "fi(1, ¦g);"}, {api.ErrType, "fi¦(p, 1);"}, {api.ErrType, "fi(¦g, nix);"}, {api.ErrName, "ep(1, ¦nix);"}, {api.ErrType, "ep(1, ¦g);"}, {api.ErrType, "ep(¦1, 1);"}, {api.ErrType, "i¦(p);"}, {api.ErrType, "fp¦(p);"}, {api.ErrType, "fi(¦-p, g);"},
		// indices, members, casts, sizes
		{api.ErrName, "1[¦nix];"}, {api.ErrType, "¦g[nix];"}, {api.ErrType, "1[¦g];"}, {api.ErrName, "¦nix.nix2;"}, {api.ErrType, "i¦.nix;"}, {api.ErrType, "¦g->nix;"}, {api.ErrType, "up¦->nix;"}, {api.ErrName, "(struct nix) ¦nix2;"}, {api.ErrType, "(struct r) ¦g;"}, {api.ErrType, "(struct un) ev¦();"}, {api.ErrType, "¦(struct r) rf();"}, {api.ErrType, "(int) ¦g;"}, {api.ErrType, "(void) ¦-p;"}, {api.ErrType, "sizeof (¦*v, nix);"}, {api.ErrType, "sizeof ¦*v;"},
		// statements
		{api.ErrType, "if (¦g) nix;"}, {api.ErrName, "if (i) ¦nix; else g + 1;"}, {api.ErrType, "if (i) ; else ¦g + nix;"}, {api.ErrType, "while (¦g) nix;"}, {api.ErrName, "do ¦nix; while (g);"}, {api.ErrType, "do ; while (¦g);"}, {api.ErrName, "for (¦nix; g; nix2) nix3;"}, {api.ErrType, "for (; ¦g; nix) nix2;"}, {api.ErrName, "for (; ; ¦nix) nix2;"}, {api.ErrName, "for (; ; g) ¦nix2;"}, {api.ErrType, "switch (¦p) { case nix: nix; }"}, {api.ErrName, "switch (i) { ¦nix; case nix: }"}, {api.ErrConst, "switch (i) { case ¦nix: nix; }"}, {api.ErrSyntax, "¦break; nix;"}, {api.ErrName, "¦nix; break;"},
		{api.ErrType, "¦return 1;"}, {api.ErrName, "return ¦nix;"}, {api.ErrType, "return ¦g;"}, {api.ErrType, "return ev¦();"}, {api.ErrType, "return f¦();"}, {api.ErrType, "¦return 1 + i;"}, {api.ErrType, "return ¦-p;"},
		// labels are looked at ahead
		{api.ErrName, "nix; x: ¦x: ;"}, {api.ErrName, "nix; { x: ; } while (nix) switch (nix) { ¦x: }"}, {api.ErrName, "x: y: ¦y: x: nix;"}, {api.ErrName, "x: if (i) { y: { z: } } else do { ¦z: x: } while (i);"}, {api.ErrName, "for (;;) { x: } for (;;) { ¦x: }"},
		// variables
		{api.ErrName, "int z; ¦struct un z = {nix};"}, {api.ErrType, "¦struct un z = {nix};"}, {api.ErrType, "int z = ¦{nix};"}, {api.ErrType, "struct r z = ¦{nix};"}, {api.ErrType, "¦struct r z = nix;"}, {api.ErrType, "¦struct r z = g;"}, {api.ErrType, "¦int z[2] = nix;"}, {api.ErrType, "¦char z[2] = \"a\";"}, {api.ErrName, "int z = ¦nix;"}, {api.ErrType, "int z = ¦g;"}, {api.ErrType, "¦int z = p;"},
	} {
		wantFault(t, x.errno, x.text)
	}
}
