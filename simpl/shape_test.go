package simpl_test

import (
	"regexp"
	"strconv"
	"testing"
)

// named is a body's text in which temporaries are numbered as they come: their own numbers are free.
func named(text string) string {
	numbers := map[string]string{}
	return regexp.MustCompile(`\bt\d+`).ReplaceAllStringFunc(text, func(t string) string {
		if numbers[t] == "" {
			numbers[t] = "t" + strconv.Itoa(len(numbers))
		}
		return numbers[t]
	})
}

// P9.1: what bodies of main become.
func TestShapes(t *testing.T) {
	for _, r := range [][2]string{
		// the document's examples
		{"int x = get(1);", "t0 = invoke @get 1; put (c32 l0) t0"},
		{"while (get(1)) put(2);", "loop none {t0 = invoke @get 1; if t0 {} {break}; invoke @put 2} {}"},
		// what does nothing and can't go wrong is left out
		{";", ""},
		{"1; get; (void) 2; gs; { { } }", ""},
		{"g;", "t0 = (c32 @g)"},
		{"-g, 1;", "t0 = (neg (c32 @g))"},
		{"get(1), put(2);", "invoke @get 1; invoke @put 2"},
		{"{ put(1); { put(2); } } put(3);", "invoke @put 1; invoke @put 2; invoke @put 3"},
		// what isn't still is held ahead of what does something
		{"int x = 1;", "put (c32 l0) 1"},
		{"int x; int y; x = y = 2;", "put (c32 l1) 2; put (c32 l0) 2"},
		{"int x; int y; x = y = g;", "t0 = (c32 @g); put (c32 l1) t0; put (c32 l0) t0"},
		{"char c; int x = c = g;", "t0 = (s8 (c32 @g)); put (c8s l0) t0; put (c32 l1) t0"},
		{"put(g + get(1));", "t0 = (c32 @g); t1 = invoke @get 1; invoke @put (add t0 t1)"},
		{"put(get(1) + g);", "t0 = invoke @get 1; invoke @put (add t0 (c32 @g))"},
		{"put(g + g * 2);", "invoke @put (add (c32 @g) (mul (c32 @g) 2))"},
		{"put(get(1) - get(2));", "t0 = invoke @get 1; t1 = invoke @get 2; invoke @put (sub t0 t1)"},
		{"two(1, get(2)); two(g, get(2)); two(get(1), g);", "t0 = invoke @get 2; invoke @two 1 t0; t1 = (c32 @g); t2 = invoke @get 2; invoke @two t1 t2; t3 = invoke @get 1; invoke @two t3 (c32 @g)"},
		{"fp(get(1));", "t0 = (c64 @fp); t1 = invoke @get 1; invoke t0 t1"},
		{"fp(g);", "invoke (c64 @fp) (c32 @g)"},
		{"a[g] = 1;", "put (c32 (addl @a (mull (longs (c32 @g)) L4))) 1"},
		{"a[g] = get(1);", "t0 = (addl @a (mull (longs (c32 @g)) L4)); t1 = invoke @get 1; put (c32 t0) t1"},
		{"gs.n = g;", "put (c32 (addl @gs L4)) (c32 @g)"},
		// changes
		{"int x; x++;", "t0 = (c32 l0); put (c32 l0) (add t0 1)"},
		{"int x; put(x++);", "t0 = (c32 l0); put (c32 l0) (add t0 1); invoke @put t0"},
		{"int x; put(++x);", "t0 = (c32 l0); t1 = (add t0 1); put (c32 l0) t1; invoke @put t1"},
		{"int x; x += g;", "t0 = (c32 @g); t1 = (c32 l0); put (c32 l0) (add t1 t0)"},
		{"a[g] -= get(1);", "t0 = (addl @a (mull (longs (c32 @g)) L4)); t1 = invoke @get 1; t2 = (c32 t0); put (c32 t0) (sub t2 t1)"},
		{"char c; c += 2;", "t0 = (c8s l0); put (c8s l0) (s8 (add t0 2))"},
		// choices
		{"g ? put(1) : put(2);", "if (c32 @g) {invoke @put 1} {invoke @put 2}"},
		{"put(g ? 1 : get(2));", "if (c32 @g) {t0 = 1} {t1 = invoke @get 2; t0 = t1}; invoke @put t0"},
		{"put(g && get(1));", "if (c32 @g) {t0 = invoke @get 1; t1 = (truth t0)} {t1 = 0}; invoke @put t1"},
		{"put(get(1) || g);", "t0 = invoke @get 1; if t0 {t1 = 1} {t1 = (truth (c32 @g))}; invoke @put t1"},
		{"g && get(1);", "if (c32 @g) {t0 = invoke @get 1; t1 = (truth t0)} {}"},
		{"put(g + (g ? 1 : 2));", "t0 = (c32 @g); if (c32 @g) {t1 = 1} {t1 = 2}; invoke @put (add t0 t1)"},
		// statements
		{"if (g) put(1); else { put(2); put(3); }", "if (c32 @g) {invoke @put 1} {invoke @put 2; invoke @put 3}"},
		{"if (get(1)) get(2);", "t0 = invoke @get 1; if t0 {invoke @get 2} {}"},
		{"while (g) put(1);", "loop (c32 @g) {invoke @put 1} {}"},
		{"for (;;) break;", "loop none {break} {}"},
		{"for (int i = 0; i < 3; i++) put(i);", "put (c32 l0) 0; loop (lt (c32 l0) 3) {invoke @put (c32 l0)} {t0 = (c32 l0); put (c32 l0) (add t0 1)}"},
		{"for (; get(1); put(2)) continue;", "loop none {t0 = invoke @get 1; if t0 {} {break}; continue} {invoke @put 2}"},
		{"do put(1); while (g);", "after (c32 @g) {invoke @put 1} {}"},
		{"do put(1); while (get(2));", "after t0 {invoke @put 1} {t0 = invoke @get 2}"},
		{"do continue; while (put(1), g);", "after (c32 @g) {continue} {invoke @put 1}"},
		{"switch (g) { case 1: break; default: { put(1); put(get(2)); } case -1: ; }", "switch (c32 @g) {case 1; break; default; invoke @put 1; t0 = invoke @get 2; invoke @put t0; case 4294967295}"},
		{"switch ((long) get(1)) { }", "t0 = invoke @get 1; switchl (longs t0) {}"},
		{"goto a; a: put(1);", "goto a; a:; invoke @put 1"},
		{"return get(1);", "t0 = invoke @get 1; return t0"},
		{"return g;", "return (c32 @g)"},
	} {
		u := unitOf(t, "extern int get(int a); extern void put(int a); extern int two(int a, int b); int (*fp)(int); int g; int a[3]; struct s { char c; int n; }; struct s gs; int main() { "+r[0]+" }")
		if got := named(bodyText(lightOf(t, r[0], u).Funcs[0].Body)); got != r[1] {
			t.Errorf("%s\nis\n%s\nnot\n%s", r[0], got, r[1])
		}
	}
}

// P9.1: a function's Sig, parameters and locals stay; what has no result returns none.
func TestFunctions(t *testing.T) {
	const text = "double d; void h(double x, long n, char c); int main() { h(1, 2, 3); return 0; } void h(double x, long n, char c) { short s[3]; d = x; if (c) return; h(x, n, 1); }"
	light := lightOf(t, text, unitOf(t, text))
	want := []string{"invoke @h (dbls 1) (longs 2) (s8 3); return 0", "put (cf64 @d) (cf64 l0); if (c8s l2) {return none} {}; invoke @h (cf64 l0) (c64 l1) (s8 1)"}
	for i, f := range light.Funcs {
		if got := bodyText(f.Body); got != want[i] {
			t.Errorf("%s\nnot\n%s", got, want[i])
		}
	}
}
