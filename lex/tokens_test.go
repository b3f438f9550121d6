package lex_test

import (
	"fmt"
	"math"
	"strings"
	"testing"

	"alembic/api"
	"alembic/lex"
)

// at is a place.
func at(line, col int) api.Place { return api.Place{Line: line, Col: col} }

// checkTokens asks for a text's tokens, all of them.
func checkTokens(t *testing.T, text string, want ...api.Token) {
	t.Helper()
	got, place, errno := lex.Tokens(text)
	if errno != api.OK || place != (api.Place{}) {
		t.Errorf("%.80q: error %d at %v", text, errno, place)
		return
	}
	if len(got) != len(want) {
		t.Errorf("%.80q: %d tokens, not %d", text, len(got), len(want))
		return
	}
	for i := range want {
		if got[i] != want[i] {
			t.Errorf("%.80q: token %d is %s, not %s", text, i, tell(got[i]), tell(want[i]))
		}
	}
}

// tell is a token, with no more of its text than can be read.
func tell(k api.Token) string {
	return fmt.Sprintf("{%d %v %.80q %#x %.80q}", k.Kind, k.At, k.Text, k.Bits, k.Data)
}

// checkError asks for an error and its place, and nothing beside.
func checkError(t *testing.T, text string, errno api.Errno, place api.Place) {
	t.Helper()
	got, p, e := lex.Tokens(text)
	if len(got) != 0 || p != place || e != errno {
		t.Errorf("%.80q: %d tokens, error %d at %v, not %d at %v", text, len(got), e, p, errno, place)
	}
}

// checkOne asks for one token, that is the whole text, and is the first of it with more behind it.
func checkOne(t *testing.T, want api.Token) {
	t.Helper()
	want.At = at(1, 1)
	n := len([]rune(want.Text))
	checkTokens(t, want.Text, want, api.Token{Kind: api.TokEnd, At: at(1, n+1)})
	checkTokens(t, want.Text+" ", want, api.Token{Kind: api.TokEnd, At: at(1, n+2)})
	semicolon := api.Token{Kind: api.TokSign, Text: ";", At: at(1, n+1)}
	checkTokens(t, want.Text+";", want, semicolon, api.Token{Kind: api.TokEnd, At: at(1, n+2)})
}

// P4.1: the document's examples.
func TestExamples(t *testing.T) {
	checkTokens(t, "int x=0x1F;",
		api.Token{Kind: api.TokWord, At: at(1, 1), Text: "int"},
		api.Token{Kind: api.TokName, At: at(1, 5), Text: "x"},
		api.Token{Kind: api.TokSign, At: at(1, 6), Text: "="},
		api.Token{Kind: api.TokInt, At: at(1, 7), Text: "0x1F", Bits: 31},
		api.Token{Kind: api.TokSign, At: at(1, 11), Text: ";"},
		api.Token{Kind: api.TokEnd, At: at(1, 12)})
	checkTokens(t, "a+++b",
		api.Token{Kind: api.TokName, At: at(1, 1), Text: "a"},
		api.Token{Kind: api.TokSign, At: at(1, 2), Text: "++"},
		api.Token{Kind: api.TokSign, At: at(1, 4), Text: "+"},
		api.Token{Kind: api.TokName, At: at(1, 5), Text: "b"},
		api.Token{Kind: api.TokEnd, At: at(1, 6)})
	checkTokens(t, `"é\n"b`,
		api.Token{Kind: api.TokText, At: at(1, 1), Text: `"é\n"`, Data: "\xc3\xa9\x0a"},
		api.Token{Kind: api.TokName, At: at(1, 6), Text: "b"},
		api.Token{Kind: api.TokEnd, At: at(1, 7)})
	checkOne(t, api.Token{Kind: api.TokChar, Text: "'é'", Bits: 233})
	for _, s := range []string{"09", "1.", "1.5e3", "0x", "1uu", "''", "'ab'", `"a`, "@"} {
		checkError(t, s, api.ErrToken, at(1, 1))
		checkError(t, "a\n "+s, api.ErrToken, at(2, 2))
	}
}

// P4.1: texts of blanks alone, or of nothing.
func TestNothing(t *testing.T) {
	checkTokens(t, "", api.Token{Kind: api.TokEnd, At: at(1, 1)})
	checkTokens(t, " \t\r", api.Token{Kind: api.TokEnd, At: at(1, 4)})
	checkTokens(t, "\n", api.Token{Kind: api.TokEnd, At: at(2, 1)})
	checkTokens(t, "\n\r\n ", api.Token{Kind: api.TokEnd, At: at(3, 2)})
	for _, s := range []string{"\v", "\f", "\x00", "\u00a0", "\ufeff", "\u2028", "\u3000", "\x7f", "\u0085"} {
		checkError(t, s, api.ErrToken, at(1, 1))
		checkError(t, "\n\t"+s+"a", api.ErrToken, at(2, 2))
	}
}

// P4.1: names, as long as may be.
func TestNames(t *testing.T) {
	for _, s := range []string{
		"a", "z", "A", "Z", "_", "__", "a0", "_9", "aZ_09", "x", "u", "l", "e5", "int0", "Int", "INT", "in", "ints", "_int", "float", "main",
		strings.Repeat("a", api.MaxName-1), strings.Repeat("_", api.MaxName), "x" + strings.Repeat("7", api.MaxName-1),
	} {
		checkOne(t, api.Token{Kind: api.TokName, Text: s})
	}
	for _, n := range []int{api.MaxName + 1, 2 * api.MaxName, 100000} {
		long := strings.Repeat("b", n)
		checkError(t, long, api.ErrLimit, at(1, 1))
		checkError(t, "(\n  "+long+" @", api.ErrLimit, at(2, 3))
		checkError(t, "@"+long, api.ErrToken, at(1, 1))
	}
	for _, s := range []string{"é", "$", "@", "#", "`", "α", "ﬀ", "\\", "٣"} {
		checkError(t, s, api.ErrToken, at(1, 1))
		checkError(t, "a"+s, api.ErrToken, at(1, 2))
		checkError(t, "1"+s, api.ErrToken, at(1, 2))
	}
}

// P4.1: whole numbers at their limits and with their letters.
func TestInts(t *testing.T) {
	for s, bits := range map[string]uint64{
		"0": 0, "1": 1, "9": 9, "10": 10, "1234567890": 1234567890,
		"2147483647": math.MaxInt32, "2147483648": 1 << 31, "4294967295": math.MaxUint32, "4294967296": 1 << 32,
		"9223372036854775807": math.MaxInt64, "9223372036854775808": 1 << 63, "18446744073709551615": math.MaxUint64,
		"00": 0, "07": 7, "010": 8, "01234567": 342391, "0777": 511, "000": 0,
		"01777777777777777777777": math.MaxUint64, "001777777777777777777777": math.MaxUint64,
		"0x0": 0, "0X0": 0, "0x1F": 31, "0X1f": 31, "0xabcdef": 0xabcdef, "0XABCDEF": 0xabcdef, "0x0123456789": 0x123456789,
		"0xffffffffffffffff": math.MaxUint64, "0x0ffffffffffffffff": math.MaxUint64, "0x8000000000000000": 1 << 63,
		"0x" + strings.Repeat("0", 500) + "e": 14, strings.Repeat("0", 500) + "17": 15,
	} {
		for _, letters := range []string{"", "u", "U", "l", "L", "ul", "uL", "Ul", "UL", "lu", "lU", "Lu", "LU"} {
			checkOne(t, api.Token{Kind: api.TokInt, Text: s + letters, Bits: bits})
		}
	}
}

// P4.1: what begins with a digit and is no number.
func TestNoNumbers(t *testing.T) {
	for _, s := range []string{
		"18446744073709551616", "18446744073709551616u", "18446744073709551625", "99999999999999999999", "184467440737095516150",
		"02000000000000000000000", "0x10000000000000000", "0x1ffffffffffffffff", "1" + strings.Repeat("0", 500),
		"08", "09", "018", "0a", "1a", "0b1", "0o7", "1_000", "0_1", "1_", "0x_1", "0x", "0X", "0xg", "0x1g", "00x1", "1x1", "0xx1",
		"1uu", "1ll", "1ull", "1llu", "1lul", "1ulu", "1LL", "1Uu", "1lL", "0xu", "0xl", "0xul", "1uf", "1f", "1u1", "1l_", "1ux",
		"1.", "0.", "1..", "1..2", "1.2.", "1.2.3", "1.u", "1.5u", "1.5l", "1.5f", "1.5e3", "1e3", "1E3", "1.e3", "1.5_", "0x1.8", "0x1p3", "1.0x1", "1.a", "1a.5", "1u.5",
		"1234567890123456.0", "0.1234567890123456", "12345678.12345678", "0000000000000000.0", "0.0000000000000000",
	} {
		checkError(t, s, api.ErrToken, at(1, 1))
		checkError(t, "x = "+s+";", api.ErrToken, at(1, 5))
	}
}

// P4.1: numbers with a point.
func TestFloats(t *testing.T) {
	for s, d := range map[string]float64{
		"0.0": 0, "1.0": 1, "0.5": 0.5, "1.5": 1.5, "3.14159": 3.14159, "0.1": 0.1, "09.5": 9.5, "00.25": 0.25, "10.10": 10.1,
		"99999999999999.9": 99999999999999.9, "9.99999999999999": 9.99999999999999, "0.00000000000001": 1e-14, "00000000000000.1": 0.1,
		"12345678901234.0": 12345678901234, "08.8": 8.8,
	} {
		checkOne(t, api.Token{Kind: api.TokFloat, Text: s, Bits: math.Float64bits(d)})
	}
	checkTokens(t, ".5",
		api.Token{Kind: api.TokSign, At: at(1, 1), Text: "."},
		api.Token{Kind: api.TokInt, At: at(1, 2), Text: "5", Bits: 5},
		api.Token{Kind: api.TokEnd, At: at(1, 3)})
	checkTokens(t, "-1.5",
		api.Token{Kind: api.TokSign, At: at(1, 1), Text: "-"},
		api.Token{Kind: api.TokFloat, At: at(1, 2), Text: "1.5", Bits: math.Float64bits(1.5)},
		api.Token{Kind: api.TokEnd, At: at(1, 5)})
}

// P4.1: characters, and what is none.
func TestChars(t *testing.T) {
	for s, bits := range map[string]uint64{
		"a": 'a', " ": ' ', `"`: '"', "\t": '\t', "\r": '\r', "\x00": 0, "@": '@', "é": 233, "€": 0x20ac, "😀": 0x1f600, "\u00a0": 0xa0,
		"\ufffd": 0xfffd, "\ufeff": 0xfeff, "\U0010ffff": 0x10ffff, "\x7f": 0x7f, "n": 'n', "0": '0', "x": 'x', "/": '/',
		`\n`: 10, `\t`: 9, `\r`: 13, `\0`: 0, `\\`: '\\', `\'`: '\'', `\"`: '"',
		`\x00`: 0, `\x41`: 'A', `\x7f`: 127, `\x80`: 128, `\xe9`: 233, `\xff`: 255, `\xFF`: 255, `\xAb`: 171,
	} {
		checkOne(t, api.Token{Kind: api.TokChar, Text: "'" + s + "'", Bits: bits})
	}
	for _, s := range []string{
		"'", "''", "'''", "'a", "'ab'", "'éé'", "'\n'", "'a\n'", "'\\\n'", `'\'`, `'\`, `'\\`, `'\\\'`, `'\a'`, `'\b'`, `'\1'`, `'\00'`, `'\N'`, `'\e'`, `'\é'`, `'\ '`,
		`'\x'`, `'\x4'`, `'\x`, `'\x4`, `'\x41`, `'\x411'`, `'\xg0'`, `'\x0g'`, `'\x+1'`, `'\x_1'`, `'\x 1'`, `'\xé'`, `'\X41'`, `'\nn'`, `'n\n'`, `'\n\n'`,
	} {
		checkError(t, s, api.ErrToken, at(1, 1))
		checkError(t, "\n\n x "+s, api.ErrToken, at(3, 4))
	}
}

// P4.1: strings, and what is none.
func TestStrings(t *testing.T) {
	for s, data := range map[string]string{
		"": "", "a": "a", "'": "'", "''": "''", "hello, world": "hello, world", "\t \r": "\t \r", "\x00": "\x00", "/* */ // @": "/* */ // @",
		"é€😀\ufffd": "é€😀\ufffd", `\n\t\r\0\\\'\"`: "\n\t\r\x00\\'\"", `\x00\x7f\x80\xfF`: "\x00\x7f\x80\xff",
		`\\n`: `\n`, `\\\n`: "\\\n", `\\\\`: `\\`, `\x411`: "A1", `\00`: "\x000", `\xc3\xa9`: "é", `a\"b`: `a"b`, `\xe9é`: "\xe9é",
		strings.Repeat("é", 1000): strings.Repeat("é", 1000), strings.Repeat(`\n`, 1000): strings.Repeat("\n", 1000),
	} {
		checkOne(t, api.Token{Kind: api.TokText, Text: `"` + s + `"`, Data: data})
	}
	for _, s := range []string{
		`"`, `"a`, `"\"`, `"\`, `"\\`, `"\\\"`, "\"\n\"", "\"a\nb\"", "\"a\\\nb\"", `"\a"`, `"\1"`, `"\N"`, `"\é"`, `"\ "`, `"ok\q"`, `"\nok\q\n"`,
		`"\x"`, `"\x4"`, `"\x4`, `"\x41`, `"\xg0"`, `"\x0g"`, `"\x-1"`, `"\x4\"1"`, `"\xé"`, `"\X41"`, "\"\\x4\n1\"", "\"a\n",
	} {
		checkError(t, s, api.ErrToken, at(1, 1))
		checkError(t, "\n\n x "+s, api.ErrToken, at(3, 4))
	}
}

// P4.1: a text that ends in the middle of a token, and tokens that stand side by side.
func TestSideBySide(t *testing.T) {
	for _, x := range []struct {
		text string
		want string
	}{
		{"a b", "a b"}, {"ab12", "ab12"}, {"a\tb\r\nc", "a b c"}, {"<<<=", "<< <="}, {"<<=<", "<<= <"}, {">>>=>>=", ">> >= >>="}, {"--->", "-- ->"}, {"->-", "-> -"},
		{"a---b", "a -- - b"}, {"&&&=", "&& &="}, {"|||", "|| |"}, {"===", "== ="}, {"!==", "!= ="}, {"^^=", "^ ^="}, {"~=", "~ ="}, {"!!", "! !"}, {"%%=", "% %="},
		{"...", ". . ."}, {"/**/", "/ * * /"}, {"//", "/ /"}, {"/=/", "/= /"}, {"?:", "? :"}, {"[]{}()", "[ ] { } ( )"}, {"*=*", "*= *"}, {"<-", "< -"}, {"=<", "= <"},
		{`a"b"'c'1`, `a "b" 'c' 1`}, {`1"b"`, `1 "b"`}, {"1+1", "1 + 1"}, {"1;.5", "1 ; . 5"}, {"a.b", "a . b"}, {"a.5", "a . 5"}, {"'a''b'", "'a' 'b'"}, {`"a""b"`, `"a" "b"`},
		{"sizeof(int)", "sizeof ( int )"}, {"int*p", "int * p"}, {"intx", "intx"}, {"<", "<"}, {"<<", "<<"}, {"x>", "x >"}, {"1-", "1 -"}, {"_1.5", "_1 . 5"},
	} {
		tokens, _, errno := lex.Tokens(x.text)
		var texts []string
		for _, k := range tokens {
			texts = append(texts, k.Text)
		}
		if got := strings.Join(texts, " "); errno != api.OK || got != x.want+" " {
			t.Errorf("%q: %q, error %d", x.text, got, errno)
		}
	}
}

// P4.1: the first thing that is no token is told, whatever stands behind it.
func TestFirstError(t *testing.T) {
	long := strings.Repeat("a", api.MaxName+1)
	checkError(t, "a $ "+long, api.ErrToken, at(1, 3))
	checkError(t, "a "+long+" $", api.ErrLimit, at(1, 3))
	checkError(t, "int main() { return 09; } $", api.ErrToken, at(1, 21))
	checkError(t, "'a' \"b\" '", api.ErrToken, at(1, 9))
	checkError(t, "\"\n"+long, api.ErrToken, at(1, 1))
}
