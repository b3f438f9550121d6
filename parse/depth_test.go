package parse_test

import (
	"testing"

	"alembic/api"
	"alembic/parse"
)

// P6.1: how deep trees of each form nest.
func TestDepth(t *testing.T) {
	for _, x := range []struct {
		text string
		want int
	}{
		{"int x;", 1}, {"int ***x[2][3];", 1}, {"int x = 1;", 2}, {"int x = a;", 2}, {"int x = 1.5;", 2}, {"int x = \"a\";", 2}, {"int x = ((a));", 2}, {"int x = -a;", 3}, {"int x = a++;", 3}, {"int x = a + b;", 3}, {"int x = a + b + c;", 4}, {"int x = a + b * c * d;", 5}, {"int x = (a * b) + (c - d);", 4}, {"int x = a = b;", 3}, {"int x = a = b = c;", 4},
		{"int x = a ? b : c;", 3}, {"int x = -a ? b : c;", 4}, {"int x = a ? -b : c;", 4}, {"int x = a ? b : -c;", 4}, {"int x = f();", 3}, {"int x = f(a);", 3}, {"int x = f(a, -b, c);", 4}, {"int x = (-f)(a);", 4}, {"int x = f(a, b, --c);", 4}, {"int x = a[b];", 3}, {"int x = a[-b];", 4}, {"int x = a[b][c];", 4}, {"int x = a.b;", 3}, {"int x = a->b.c;", 4},
		{"int x = (int) a;", 3}, {"int x = (int (*)(int**)) a;", 3}, {"int x = sizeof a;", 3}, {"int x = sizeof (a);", 3}, {"int x = sizeof (int);", 2}, {"int x = sizeof (int (*)(int*));", 2}, {"int x = {1};", 3}, {"int x = {1, {2}};", 4}, {"int x = {{1}, 2};", 4},
		{"struct s { int a; };", 1}, {"struct s { int *a[2]; int (*b)(int**); };", 1}, {"int f();", 1}, {"int f(int a, int (*b)(int));", 1}, {"extern int f();", 1},
		{"int f() { }", 2}, {"int f() { ; }", 3}, {"int f() { a; }", 4}, {"int f() { -a; }", 5}, {"int f() { { } }", 3}, {"int f() { ; a; ; }", 4}, {"int f() { { { ; } } a; }", 5}, {"int f() { int a; }", 3}, {"int f() { int a = 1; }", 4}, {"int f() { a: }", 3}, {"int f() { break; }", 3}, {"int f() { goto a; }", 3}, {"int f() { return; }", 3}, {"int f() { return a; }", 4},
		{"int f() { if (a) ; }", 4}, {"int f() { if (-a) ; }", 5}, {"int f() { if (a) b; }", 5}, {"int f() { if (a) ; else b; }", 5}, {"int f() { while (a) ; }", 4}, {"int f() { while (-a) ; }", 5}, {"int f() { while (a) b; }", 5}, {"int f() { do ; while (a); }", 4}, {"int f() { do b; while (a); }", 5}, {"int f() { do ; while (-a); }", 5},
		{"int f() { for (;;) ; }", 4}, {"int f() { for (a;;) ; }", 5}, {"int f() { for (;a;) ; }", 4}, {"int f() { for (;-a;) ; }", 5}, {"int f() { for (;;-a) ; }", 5}, {"int f() { for (;;) a; }", 5}, {"int f() { for (int a;;) ; }", 4}, {"int f() { for (int a = 1;;) ; }", 5},
		{"int f() { switch (a) { } }", 4}, {"int f() { switch (-a) { } }", 5}, {"int f() { switch (a) { default: } }", 4}, {"int f() { switch (a) { case 1: } }", 5}, {"int f() { switch (a) { case -1: } }", 6}, {"int f() { switch (a) { ; b; } }", 5},
	} {
		trees := mustParse(t, x.text)
		if len(trees) != 1 || parse.Depth(trees[0]) != x.want {
			t.Errorf("%q nests %d deep, not %d", x.text, parse.Depth(trees[0]), x.want)
		}
	}
	if n := parse.Depth(api.Tree{}); n != 0 {
		t.Errorf("none nests %d deep", n)
	}
}

// deep is Depth, tree by tree.
func deep(x api.Tree) int {
	if x.None() {
		return 0
	}
	deepest := 0
	for _, k := range x.Kids {
		deepest = max(deepest, deep(k))
	}
	return 1 + deepest
}

// P6.1: so of trees within others, and of those that are made by the grammar; no call changes them.
func TestDepthOfGrown(t *testing.T) {
	for seed := range 500 {
		_, trees := grown(seed)
		_, again := grown(seed)
		var look func(list []api.Tree)
		look = func(list []api.Tree) {
			for _, x := range list {
				if got := parse.Depth(x); got != deep(x) {
					t.Errorf("%s nests %d deep, not %d", show(x), got, deep(x))
				}
				look(x.Kids)
			}
		}
		look(trees)
		if !sameTrees(trees, again) {
			t.Errorf("%s became %s", showPlaces(again...), showPlaces(trees...))
		}
	}
}

// P6.1: trees that nest deeper than any that Parse answers.
func TestDepthOfDeepTrees(t *testing.T) {
	x := api.TName{Name: "a"}.Tree()
	for n := 1; n <= 1<<16; n++ {
		if n%9999 == 0 && parse.Depth(x) != n {
			t.Errorf("%d, not %d", parse.Depth(x), n)
		}
		x = api.TBinary{Op: "+", X: x, Y: api.TNum{Bits: 1}.Tree()}.Tree()
	}
}
