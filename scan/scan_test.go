package scan

import (
	"bytes"
	"errors"
	"math/rand"
	"reflect"
	"strings"
	"testing"

	"enfilade/api"
	"enfilade/value"
)

func yes(b bool) value.Value            { return value.Value{Kind: value.Bool, Yes: b} }
func num(n int) value.Value             { return value.Value{Kind: value.Int, Int: n} }
func str(s string) value.Value          { return value.Value{Kind: value.Text, Text: s} }
func list(l ...value.Value) value.Value { return value.Value{Kind: value.List, List: l} }

// mapOf is a map of keys and values by turns.
func mapOf(l ...any) value.Value {
	v := value.Value{Kind: value.Map}
	for i := 0; i < len(l); i += 2 {
		v.Map = append(v.Map, value.Member{Key: l[i].(string), Value: l[i+1].(value.Value)})
	}
	return v
}

// nest is a value in so many lists.
func nest(v value.Value, times int) value.Value {
	for range times {
		v = list(v)
	}
	return v
}

// inLists and inMaps are a text of a value in so many lists, or maps.
func inLists(s string, times int) string {
	return strings.Repeat("[", times) + s + strings.Repeat("]", times)
}
func inMaps(s string, times int) string {
	return strings.Repeat(`{"a":`, times) + s + strings.Repeat("}", times)
}

// fault tells an error's place and code, if it is just a Fault with a place, no field, and a code within.
func fault(err error) (int, api.Code, bool) {
	f, ok := err.(*api.Fault)
	if !ok || f.Field != "" {
		return 0, 0, false
	}
	c, ok := f.Why.(api.Code)
	return f.At, c, ok
}

func TestParse(t *testing.T) {
	for s, want := range map[string]value.Value{
		"null": {}, "true": yes(true), "false": yes(false),
		"0": num(0), "1": num(1), "-1": num(-1), "10": num(10), "-10": num(-10), "1234567890": num(1234567890),
		"9007199254740991": num(api.MaxInt), "-9007199254740991": num(-api.MaxInt), "9007199254740990": num(api.MaxInt - 1),
		`""`: str(""), `"a"`: str("a"), `"null"`: str("null"), `"[1"`: str("[1"), `" a "`: str(" a "),
		"[]": list(), "{}": mapOf(), "[ ]": list(), "{\n}": mapOf(),
		"[1]": list(num(1)), "[null,true,false]": list(value.Value{}, yes(true), yes(false)),
		`[1,"a",[],{}]`:                           list(num(1), str("a"), list(), mapOf()),
		"[[1],[2,[3]]]":                           list(list(num(1)), list(num(2), list(num(3)))),
		`{"b":1,"a":[2]}`:                         mapOf("a", list(num(2)), "b", num(1)),
		`{"":0}`:                                  mapOf("", num(0)),
		`{"a":{"a":{"a":1}}}`:                     mapOf("a", mapOf("a", mapOf("a", num(1)))),
		`[{"a":1},{"a":2}]`:                       list(mapOf("a", num(1)), mapOf("a", num(2))),
		`{"a":{"b":1},"b":{"b":2,"a":3}}`:         mapOf("a", mapOf("b", num(1)), "b", mapOf("a", num(3), "b", num(2))),
		`{"b":1,"B":2,"":3,"aa":4,"a":5}`:         mapOf("", num(3), "B", num(2), "a", num(5), "aa", num(4), "b", num(1)),
		`{"\u00e9":1,"z":2,"\n":3}`:               mapOf("\n", num(3), "z", num(2), "é", num(1)),
		`{"\ud800\udc00":1,"` + "\uffff" + `":2}`: mapOf("\uffff", num(2), "\U00010000", num(1)),
		" \t\r\n1 \t\r\n":                         num(1),
		" [ 1 , 2 ] ":                             list(num(1), num(2)),
		"\t{\r\"a\"\n: 1\t,\r\"b\"\n:2 } ":        mapOf("a", num(1), "b", num(2)),
		`["a\tb"	,"\"\\"]`:                        list(str("a\tb"), str(`"\`)),
	} {
		v, err := Parse([]byte(s))
		if err != nil || !value.Same(v, want) || value.Check(v) != nil {
			t.Errorf("P2.1: Parse(%q): %v, %v", s, v, err)
		}
	}
}

func TestParseUnused(t *testing.T) {
	v, err := Parse([]byte(`[null,true,false,1,"a",[1],{"k":"a"}]`))
	want := list(value.Value{}, yes(true), yes(false), num(1), str("a"), list(num(1)), mapOf("k", str("a")))
	if err != nil || !reflect.DeepEqual(v, want) {
		t.Errorf("P7: R3: what a value's kind doesn't use is there: %v, %v", v, err)
	}
}

func TestParseWrong(t *testing.T) {
	for _, x := range []struct {
		s    string
		at   int
		code api.Code
	}{
		// They end ahead of the end of a value.
		{"", 0, api.ErrForm}, {" \n\t\r", 4, api.ErrForm}, {"[", 1, api.ErrForm}, {"[ ", 2, api.ErrForm}, {"[1", 2, api.ErrForm}, {"[1,", 3, api.ErrForm}, {"[1, ", 4, api.ErrForm}, {"[[]", 3, api.ErrForm},
		{"{", 1, api.ErrForm}, {"{ ", 2, api.ErrForm}, {`{"a"`, 4, api.ErrForm}, {`{"a" `, 5, api.ErrForm}, {`{"a":`, 5, api.ErrForm}, {`{"a":1`, 6, api.ErrForm}, {`{"a":1,`, 7, api.ErrForm}, {`{"a":{}`, 7, api.ErrForm},
		// A sign that can't stand there.
		{"]", 0, api.ErrForm}, {"}", 0, api.ErrForm}, {",", 0, api.ErrForm}, {":", 0, api.ErrForm}, {"[,", 1, api.ErrForm}, {"[}", 1, api.ErrForm}, {"[:", 1, api.ErrForm}, {"[1,,2]", 3, api.ErrForm}, {"[1,]", 3, api.ErrForm}, {"[1 , ]", 5, api.ErrForm}, {"[1}", 2, api.ErrForm}, {"[1:2]", 2, api.ErrForm}, {"[1 2]", 3, api.ErrForm}, {`["a":1]`, 4, api.ErrForm}, {"[[][]]", 3, api.ErrForm},
		{"{]", 1, api.ErrForm}, {"{,", 1, api.ErrForm}, {"{:", 1, api.ErrForm}, {"{{", 1, api.ErrForm}, {"{[", 1, api.ErrForm}, {"{1:2}", 1, api.ErrForm}, {"{a:1}", 1, api.ErrForm}, {"{null:1}", 1, api.ErrForm}, {`{"a"}`, 4, api.ErrForm}, {`{"a",`, 4, api.ErrForm}, {`{"a"1}`, 4, api.ErrForm}, {`{"a" "b"}`, 5, api.ErrForm}, {`{"a"::1}`, 5, api.ErrForm}, {`{"a":}`, 5, api.ErrForm}, {`{"a":,`, 5, api.ErrForm}, {`{"a":1,}`, 7, api.ErrForm}, {`{"a":1]`, 6, api.ErrForm}, {`{"a":1:2}`, 6, api.ErrForm}, {`{"a":1 "b":2}`, 7, api.ErrForm}, {`{"a":1,2}`, 7, api.ErrForm}, {`{"a":1,{}}`, 7, api.ErrForm},
		{"1 2", 2, api.ErrForm}, {"1]", 1, api.ErrForm}, {"[]]", 2, api.ErrForm}, {"{}}", 2, api.ErrForm}, {"{}{}", 2, api.ErrForm}, {"1,", 1, api.ErrForm}, {`""""`, 2, api.ErrForm}, {`"a"b`, 3, api.ErrForm}, {"null null", 5, api.ErrForm}, {"1 \x00", 2, api.ErrForm},
		{"'a'", 0, api.ErrForm}, {"\x00", 0, api.ErrForm}, {"[\x00", 1, api.ErrForm}, {"\v1", 0, api.ErrForm}, {"\f1", 0, api.ErrForm}, {"\xc2\xa01", 0, api.ErrForm}, {"1\xc2\xa0", 1, api.ErrForm}, {"\xef\xbb\xbf1", 0, api.ErrForm}, {"[\xff", 1, api.ErrForm}, {"/**/1", 0, api.ErrForm}, {`\u0031`, 0, api.ErrForm}, {"_", 0, api.ErrForm}, {"NaN", 0, api.ErrForm}, {"True", 0, api.ErrForm},
		// No word.
		{"nul", 0, api.ErrForm}, {"n", 0, api.ErrForm}, {"nulll", 0, api.ErrForm}, {"truee", 0, api.ErrForm}, {"[falsetrue]", 1, api.ErrForm}, {"[true,nothing]", 6, api.ErrForm}, {"e5", 0, api.ErrForm}, {"trueX", 4, api.ErrForm}, {"true1", 4, api.ErrForm}, {"[true_]", 5, api.ErrForm}, {"tRue", 0, api.ErrForm}, {`null"a"`, 4, api.ErrForm},
		// No number.
		{"-", 0, api.ErrForm}, {"[-]", 1, api.ErrForm}, {"-0", 0, api.ErrForm}, {"00", 0, api.ErrForm}, {"01", 0, api.ErrForm}, {"-01", 0, api.ErrForm}, {"-00", 0, api.ErrForm}, {"0000", 0, api.ErrForm}, {"+1", 0, api.ErrForm}, {"+", 0, api.ErrForm}, {".5", 0, api.ErrForm}, {"1.", 0, api.ErrForm}, {"1.0", 0, api.ErrForm}, {"[1,1.5]", 3, api.ErrForm}, {"1e3", 0, api.ErrForm}, {"1E3", 0, api.ErrForm}, {"E", 0, api.ErrForm}, {"0e0", 0, api.ErrForm}, {"1e+3", 0, api.ErrForm}, {"--1", 0, api.ErrForm}, {"1-2", 0, api.ErrForm}, {"1-", 0, api.ErrForm}, {"1+2", 0, api.ErrForm}, {"1end", 0, api.ErrForm}, {"- 1", 0, api.ErrForm}, {"-null", 0, api.ErrForm}, {"1null", 1, api.ErrForm}, {"0x10", 1, api.ErrForm}, {"1_000", 1, api.ErrForm}, {`1"a"`, 1, api.ErrForm}, {"1[", 1, api.ErrForm},
		{"99999999999999999999.0", 0, api.ErrForm}, {"099999999999999999999", 0, api.ErrForm},
		// A number out of its range.
		{"9007199254740992", 0, api.ErrNumber}, {"-9007199254740992", 0, api.ErrNumber}, {"9223372036854775807", 0, api.ErrNumber}, {"9223372036854775808", 0, api.ErrNumber}, {"-9223372036854775808", 0, api.ErrNumber}, {"18446744073709551617", 0, api.ErrNumber}, {"[1, 10000000000000000000000000]", 4, api.ErrNumber}, {"1" + strings.Repeat("0", api.MaxBytes-1), 0, api.ErrNumber},
		// No text.
		{`"`, 0, api.ErrText}, {`"a`, 0, api.ErrText}, {`["a]`, 1, api.ErrText}, {` "`, 1, api.ErrText}, {`"\`, 0, api.ErrText}, {`"\"`, 0, api.ErrText}, {`"a\\\"`, 0, api.ErrText},
		{"\"\x00\"", 0, api.ErrText}, {"\"\n\"", 0, api.ErrText}, {"\"\t\"", 0, api.ErrText}, {"\"\x1f\"", 0, api.ErrText}, {"\"\\\n\"", 0, api.ErrText},
		{"\"\xff\"", 0, api.ErrText}, {"\"\xc3\"", 0, api.ErrText}, {"\"\x80\"", 0, api.ErrText}, {"\"\xc0\x80\"", 0, api.ErrText}, {"\"\xed\xa0\x80\"", 0, api.ErrText}, {"\"\xf4\x90\x80\x80\"", 0, api.ErrText}, {"\"\xc3\\n\xa9\"", 0, api.ErrText}, {"[\"é\xe2\x82\"]", 1, api.ErrText},
		{`"\q"`, 0, api.ErrText}, {`"\'"`, 0, api.ErrText}, {`"\0"`, 0, api.ErrText}, {`"\N"`, 0, api.ErrText}, {`"\U0041"`, 0, api.ErrText}, {`"\x41"`, 0, api.ErrText}, {`"\a"`, 0, api.ErrText}, {`"\v"`, 0, api.ErrText}, {"\"\\é\"", 0, api.ErrText}, {"\"\\\x00\"", 0, api.ErrText},
		{`"\u"`, 0, api.ErrText}, {`"\u1"`, 0, api.ErrText}, {`"\u12"`, 0, api.ErrText}, {`"\u123"`, 0, api.ErrText}, {`"\u123`, 0, api.ErrText}, {`"\u1234`, 0, api.ErrText}, {`"\u`, 0, api.ErrText}, {`"\u12G4"`, 0, api.ErrText}, {`"\u+123"`, 0, api.ErrText}, {`"\u-123"`, 0, api.ErrText}, {`"\u0x1f"`, 0, api.ErrText}, {`"\u1_23"`, 0, api.ErrText}, {`"\u 123"`, 0, api.ErrText}, {`"\u{41}"`, 0, api.ErrText},
		{`"\ud800"`, 0, api.ErrText}, {`"\udbff"`, 0, api.ErrText}, {`"\udc00"`, 0, api.ErrText}, {`"\udfff"`, 0, api.ErrText}, {`"\uDC00\uD800"`, 0, api.ErrText}, {`"\udc00\udc00"`, 0, api.ErrText}, {`"\udfff\udfff"`, 0, api.ErrText}, {`"\ud800\ud800\udc00"`, 0, api.ErrText}, {`"\ud800\udc00\udc00"`, 0, api.ErrText}, {`"\ud800\ud800"`, 0, api.ErrText}, {`"\ud800\u0041"`, 0, api.ErrText}, {`"\ud800\ue000"`, 0, api.ErrText}, {`"\ud800 \udc00"`, 0, api.ErrText}, {`"\ud800\n"`, 0, api.ErrText}, {`"\ud800a"`, 0, api.ErrText}, {`"\ud800udc00"`, 0, api.ErrText}, {`"\ud800\`, 0, api.ErrText}, {`"\ud800\u`, 0, api.ErrText}, {`"\ud800\udc0`, 0, api.ErrText}, {`"\ud800\Udc00"`, 0, api.ErrText}, {`"\ud800` + "😀" + `"`, 0, api.ErrText},
		{`{"a`, 1, api.ErrText}, {"{\"a\x01\":1}", 1, api.ErrText}, {`{"a":"\q"}`, 5, api.ErrText}, {`{"a":1,"\u"`, 7, api.ErrText},
		// Too deep.
		{inLists("", api.MaxDepth+1), 20, api.ErrDeep}, {inLists("", 500), 20, api.ErrDeep}, {inLists("{}", api.MaxDepth), 20, api.ErrDeep}, {inMaps("{}", api.MaxDepth), 100, api.ErrDeep}, {inMaps(" []", api.MaxDepth), 101, api.ErrDeep}, {strings.Repeat("[", 21), 20, api.ErrDeep}, {strings.Repeat("[", api.MaxBytes), 20, api.ErrDeep}, {inLists("[],["+inLists("", 1), 19), 22 + 1, api.ErrDeep},
		// A key that stands twice.
		{`{"a":1,"a":2}`, 7, api.ErrTwice}, {`{"a":1,"b":2, "a":3}`, 14, api.ErrTwice}, {`{"b":1,"a":2,"b"`, 13, api.ErrTwice}, {`{"a":1,"a"`, 7, api.ErrTwice}, {`{"a":1,"\u0061"]`, 7, api.ErrTwice}, {`{"":1,"":2}`, 6, api.ErrTwice}, {`{"\/":1,"/":2}`, 8, api.ErrTwice}, {`[{"a":{"a":1},"a":2}]`, 14, api.ErrTwice}, {`{"a":{"b":1,"b":2},"a":3}`, 12, api.ErrTwice}, {`{"a":null,"a":"\q"}`, 10, api.ErrTwice}, {`{"\ud83d\ude00":1,"😀":2}`, 18, api.ErrTwice},
	} {
		v, err := Parse([]byte(x.s))
		at, code, ok := fault(err)
		if !ok || at != x.at || code != x.code || !reflect.DeepEqual(v, value.Value{}) {
			t.Errorf("P2.1: Parse(%.60q): %v, %v, want %v at %d", x.s, v, err, x.code, x.at)
		}
		if !errors.Is(err, x.code) {
			t.Errorf("P2.1: Parse(%.60q): the code isn't found in %v", x.s, err)
		}
	}
}

// Of several faults the one that the bytes come to first is told, and of two at one byte the one of the sign that can't stand there.
func TestParseFirst(t *testing.T) {
	for _, x := range []struct {
		s    string
		at   int
		code api.Code
	}{
		{`[1.5,"\q"`, 1, api.ErrForm}, {`["\q",1.5`, 1, api.ErrText}, {`[99999999999999999,"\q"`, 1, api.ErrNumber}, {`[nul,99999999999999999`, 1, api.ErrForm},
		{`{"a":1,"a":99999999999999999}`, 7, api.ErrTwice}, {`{"a":99999999999999999,"a":1}`, 5, api.ErrNumber}, {`{"a":{"b":1,"b"},"a":1}`, 12, api.ErrTwice},
		{`1 "\q"`, 2, api.ErrForm}, {`[1 99999999999999999`, 3, api.ErrForm}, {`{"a" "`, 5, api.ErrForm}, {`[1"`, 2, api.ErrForm}, {`{"a":1 "a"`, 7, api.ErrForm}, {`{99999999999999999`, 1, api.ErrForm},
		{inLists("1[", api.MaxDepth), 21, api.ErrForm}, {inLists(`"\q",[`, api.MaxDepth), 20, api.ErrText}, {inLists(`[]`, api.MaxDepth) + "1", 20, api.ErrDeep}, {inLists("", api.MaxDepth) + "[", 40, api.ErrForm},
		{`["\q"` + strings.Repeat(" ", api.MaxBytes), api.MaxBytes, api.ErrLong},
	} {
		_, err := Parse([]byte(x.s))
		if at, code, ok := fault(err); !ok || at != x.at || code != x.code {
			t.Errorf("P2.1: Parse(%.60q): %v, want %v at %d", x.s, err, x.code, x.at)
		}
	}
}

func TestParseLong(t *testing.T) {
	blank := strings.Repeat(" ", api.MaxBytes-1)
	for _, s := range []string{"1" + blank, blank + "1", `"` + blank[2:] + `a"`} {
		if v, err := Parse([]byte(s)); len(s) != api.MaxBytes || err != nil || value.Check(v) != nil {
			t.Errorf("P2.1: Parse of MaxBytes bytes: %v", err)
		}
		for _, more := range []string{" ", "]", strings.Repeat(" ", api.MaxBytes)} {
			_, err := Parse([]byte(s + more))
			if at, code, ok := fault(err); !ok || at != api.MaxBytes || code != api.ErrLong {
				t.Errorf("P2.1: Parse of more than MaxBytes bytes: %v", err)
			}
		}
	}
}

func TestParseDeep(t *testing.T) {
	v, err := Parse([]byte(inLists("1", api.MaxDepth)))
	if err != nil || !value.Same(v, nest(num(1), api.MaxDepth)) {
		t.Errorf("P2.1: Parse of MaxDepth lists: %v", err)
	}
	for _, s := range []string{inMaps(`"x"`, api.MaxDepth), inLists(inMaps("[]", 9), 10), "[" + inLists("", 19) + "," + inMaps("{}", 18) + "," + inLists("", 19) + "]"} {
		v, err := Parse([]byte(s))
		if err != nil || value.Depth(v) != api.MaxDepth || value.Check(v) != nil {
			t.Errorf("P2.1: Parse(%s): %v", s, err)
		}
	}
	s := "[" + strings.Repeat("[{}],", 5000) + "[{}]]"
	if v, err := Parse([]byte(s)); err != nil || len(v.List) != 5001 || value.Depth(v) != 3 {
		t.Errorf("P2.1: Parse of many lists beside each other: %v", err)
	}
}

func TestText(t *testing.T) {
	for s, want := range map[string]string{
		`""`: "", `"a"`: "a", `" a b "`: " a b ", `"'"`: "'", `"/"`: "/", "\"\x7f\"": "\x7f", `"é"`: "é", `"😀"`: "😀", "\"\u2028\ufffe\ufffd\U0010ffff\"": "\u2028\ufffe\ufffd\U0010ffff",
		`"\"\\\/\b\f\n\r\t"`: "\"\\/\b\f\n\r\t", `"\\n"`: `\n`, `"\\"`: `\`, `"a\nb\nc"`: "a\nb\nc",
		`"\u0041"`: "A", `"\u00411"`: "A1", `"\u0000"`: "\x00", `"\u001f"`: "\x1f", `"\u0022"`: `"`, `"\u005c"`: `\`, `"\u005cn"`: `\n`, `"\u00e9\u00E9\u00Ab"`: "éé\u00ab", `"\u20ac"`: "€", `"\uffff"`: "\uffff", `"\uFFFD"`: "\ufffd",
		`"\ud7ff\ue000"`: "\ud7ff\ue000", `"\ud83d\ude00"`: "😀", `"\uD83D\uDE00"`: "😀", `"\ud800\udc00"`: "\U00010000", `"\udbff\udfff"`: "\U0010ffff", `"\ud800\udfff\udbff\udc00x"`: "\U000103ff\U0010fc00x",
	} {
		if x, err := Text([]byte(s)); x != want || err != nil {
			t.Errorf("P2.1: Text(%q): %q, %v", s, x, err)
		}
		if v, err := Parse([]byte(s)); err != nil || !value.Same(v, str(want)) {
			t.Errorf("P2.1: Parse(%q): %v, %v", s, v, err)
		}
		if v, err := Parse([]byte("{" + s + ":1}")); err != nil || !value.Same(v, mapOf(want, num(1))) {
			t.Errorf("P2.1: Parse of a map of %q: %v, %v", s, v, err)
		}
	}
	long := strings.Repeat("a", 2*api.MaxBytes)
	if x, err := Text([]byte(`"` + long + `"`)); x != long || err != nil {
		t.Errorf("P2.1: Text of a long text: %v", err)
	}
}

func TestTextWrong(t *testing.T) {
	for _, s := range []string{
		"", "a", "1", "null", "[]", "'a'", "\x00", `"`, `"a`, `a"`, `"a"b`, `"a" `, ` "a"`, "\n\"a\"", "\"a\"\x00", `"a""b"`, `"""`, `["a"]`, `\"a\"`,
		`"\`, `"\"`, `"\x"`, `"\U0041"`, `"\u12G4"`, `"\u123`, `"\ud800"`, `"\udc00"`, `"\udc00\ud800"`, `"\ud800\u0041"`, `"\ud800`, "\"\n\"", "\"\x00\"", "\"\x1f\"", "\"\xff\"", "\"\xed\xa0\x80\"", strings.Repeat("a", 2*api.MaxBytes),
	} {
		if x, err := Text([]byte(s)); x != "" || err != api.ErrText {
			t.Errorf("P2.1: Text(%.60q): %q, %v", s, x, err)
		}
	}
	if x, err := Text(nil); x != "" || err != api.ErrText {
		t.Errorf("P2.1: Text(nil): %q, %v", x, err)
	}
	if _, err := Parse(nil); !errors.Is(err, api.ErrForm) {
		t.Errorf("P2.1: Parse(nil): %v", err)
	}
}

func TestMemory(t *testing.T) {
	const s = `{"key":["text","a\n",{"k":"v"}],"more":"x"}`
	b := append(make([]byte, 0, len(s)+8), s...)
	spare := bytes.Clone(b[:cap(b)])
	v, err := Parse(b)
	if err != nil || !bytes.Equal(b[:cap(b)], spare) {
		t.Fatalf("P7: R6: Parse changes what it is given: %q, %v", b[:cap(b)], err)
	}
	want := value.Copy(v)
	clear(b)
	if !value.Same(v, want) || v.Map[0].Key != "key" || v.Map[0].Value.List[0].Text != "text" {
		t.Errorf("P7: R6: Parse shares: %v", v)
	}
	b = []byte(`"text"`)
	x, err := Text(b)
	if err != nil || string(b) != `"text"` {
		t.Fatalf("P7: R6: Text changes what it is given: %q, %v", b, err)
	}
	clear(b)
	if x != "text" {
		t.Errorf("P7: R6: Text shares: %q", x)
	}
	// What stands behind the bytes, in the list's spare room, isn't theirs.
	behind := []byte(`[1,2]"a\u0041"`)
	if _, err := Parse(behind[:4]); !errors.Is(err, api.ErrForm) {
		t.Errorf("P7: R6: Parse reads behind its bytes: %v", err)
	}
	if x, err := Text(behind[5:9]); x != "" || err != api.ErrText {
		t.Errorf("P7: R6: Text reads behind its bytes: %q, %v", x, err)
	}
}

// agrees holds Parse and Text against the plain reading below.
func agrees(t *testing.T, s string) {
	t.Helper()
	v, err := Parse([]byte(s))
	wantAt, wantCode := plainFault(s)
	if wantCode == 0 {
		if err != nil || value.Check(v) != nil || !value.Same(v, plainValue(s)) {
			t.Errorf("P2.1: Parse(%q): %v, %v", s, v, err)
		}
	} else if at, code, ok := fault(err); !ok || at != wantAt || code != wantCode || !reflect.DeepEqual(v, value.Value{}) {
		t.Errorf("P2.1: Parse(%q): %v, %v, want %v at %d", s, v, err, wantCode, wantAt)
	}
	x, err := Text([]byte(s))
	if wantCode == 0 && s[0] == '"' && s[len(s)-1] == '"' {
		if err != nil || x != v.Text {
			t.Errorf("P2.1: Text(%q): %q, %v", s, x, err)
		}
	} else if x != "" || err != api.ErrText {
		t.Errorf("P2.1: Text(%q): %q, %v", s, x, err)
	}
}

// TestAllShort: every text of a few signs.
func TestAllShort(t *testing.T) {
	signs := []string{"[", "]", "{", "}", ",", ":", " ", `"`, `\`, `"a"`, `"b"`, "a", "e", "0", "1", "-", ".", "null", "true", `"a":`, "9007199254740992"}
	var all func(s string, more int)
	all = func(s string, more int) {
		agrees(t, s)
		for _, x := range signs {
			if more > 0 {
				all(s+x, more-1)
			}
		}
	}
	all("", 4)
}

// TestChanged: documents in which some bytes have been changed.
func TestChanged(t *testing.T) {
	source := rand.New(rand.NewSource(2))
	documents := []string{
		`{"b":[1,-2,"x\n"],"a":{"c":null},"\u0041":true}`,
		` [ {"a" : "é\ud83d\ude00" , "\u00e9":[false , [ ] , { } ] } , -9007199254740991 ] `,
		inLists(`"a\\b\"c\/"`, 18), inMaps("[0,10]", 18),
	}
	parts := []string{"[", "]", "{", "}", ",", ":", " ", "\n", `"`, `\`, `\u`, `\ud83d`, `\ude00`, "a", "b", "e", "n", "0", "1", "9", "-", ".", "\x00", "\xff", "é", "null", `"a":`}
	for range 40000 {
		s := documents[source.Intn(len(documents))]
		for range 1 + source.Intn(3) {
			from := source.Intn(len(s) + 1)
			to := min(len(s), from+source.Intn(3))
			x := ""
			if source.Intn(4) > 0 {
				x = parts[source.Intn(len(parts))]
			}
			s = s[:from] + x + s[to:]
		}
		agrees(t, s)
	}
}
