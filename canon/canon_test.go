package canon

import (
	"errors"
	"fmt"
	"hash/fnv"
	"math/rand"
	"reflect"
	"slices"
	"strings"
	"testing"
	"unicode/utf8"

	"enfilade/api"
	"enfilade/scan"
	"enfilade/value"
)

func yes(b bool) value.Value            { return value.Value{Kind: value.Bool, Yes: b} }
func num(n int) value.Value             { return value.Value{Kind: value.Int, Int: n} }
func str(s string) value.Value          { return value.Value{Kind: value.Text, Text: s} }
func list(l ...value.Value) value.Value { return value.Value{Kind: value.List, List: l} }

// mapOf is a map of keys and values by turns.
func mapOf(l ...any) value.Value {
	v := value.Value{Kind: value.Map}
	for i := 0; i < len(l); i += 2 {
		v.Map = append(v.Map, value.Member{Key: l[i].(string), Value: l[i+1].(value.Value)})
	}
	return v
}

// inLists and inMaps are a value in so many lists, or maps.
func inLists(v value.Value, times int) value.Value {
	for range times {
		v = list(v)
	}
	return v
}
func inMaps(v value.Value, times int) value.Value {
	for range times {
		v = mapOf("a", v)
	}
	return v
}

func TestText(t *testing.T) {
	for _, x := range []struct {
		v    value.Value
		want string
	}{
		{value.Value{}, "null"}, {yes(true), "true"}, {yes(false), "false"},
		{num(0), "0"}, {num(1), "1"}, {num(-1), "-1"}, {num(9), "9"}, {num(10), "10"}, {num(-10), "-10"}, {num(1000000), "1000000"}, {num(1234567890), "1234567890"},
		{num(api.MaxInt), "9007199254740991"}, {num(-api.MaxInt), "-9007199254740991"},
		{str(""), `""`}, {str("a"), `"a"`}, {str("null"), `"null"`}, {str(" a "), `" a "`}, {str("1"), `"1"`}, {str("é"), `"é"`},
		{list(), "[]"}, {value.Value{Kind: value.List, List: []value.Value{}}, "[]"}, {mapOf(), "{}"}, {value.Value{Kind: value.Map, Map: []value.Member{}}, "{}"},
		{list(num(1)), "[1]"}, {list(num(1), num(2), num(3)), "[1,2,3]"}, {list(num(2), num(1), num(2)), "[2,1,2]"}, {list(list()), "[[]]"}, {list(list(), list()), "[[],[]]"}, {list(mapOf(), value.Value{}), "[{},null]"},
		{list(value.Value{}, yes(true), yes(false), num(-5), str("a,b"), list(str("")), mapOf("k", str(""))), `[null,true,false,-5,"a,b",[""],{"k":""}]`},
		{mapOf("a", num(1)), `{"a":1}`}, {mapOf("", num(1)), `{"":1}`}, {mapOf("", value.Value{}, "a", list()), `{"":null,"a":[]}`},
		{mapOf("\n", num(3), "B", num(2), "a", num(5), "aa", num(4), "b", num(1), "é", num(0)), `{"\n":3,"B":2,"a":5,"aa":4,"b":1,"é":0}`},
		{mapOf("\uffff", num(1), "\U00010000", num(2)), "{\"\uffff\":1,\"\U00010000\":2}"},
		{mapOf("\x01", num(1), "\"", num(2), "\\", num(3)), `{"\u0001":1,"\"":2,"\\":3}`},
		{mapOf("a", mapOf("a", list(mapOf("a", mapOf())))), `{"a":{"a":[{"a":{}}]}}`},
		{mapOf("a", list(num(1), str("é\n"))), `{"a":[1,"é\n"]}`},
		{inLists(num(1), api.MaxDepth), strings.Repeat("[", api.MaxDepth) + "1" + strings.Repeat("]", api.MaxDepth)},
		{inMaps(num(1), api.MaxDepth), strings.Repeat(`{"a":`, api.MaxDepth) + "1" + strings.Repeat("}", api.MaxDepth)},
	} {
		if s, err := Text(x.v); err != nil || s != x.want {
			t.Errorf("P3.1: Text(%v): %s, %v, not %s", x.v, s, err, x.want)
		}
	}
}

func TestTextUnused(t *testing.T) {
	// What a value's kind doesn't use doesn't count, and needn't be right.
	all := value.Value{Yes: true, Int: -7, Text: "\xff", List: []value.Value{{Kind: 9}}, Map: []value.Member{{Key: "\xff"}, {Key: "\xff"}}}
	for kind, want := range []string{"null", "true", "-7"} {
		v := all
		v.Kind = value.Kind(kind)
		if s, err := Text(v); err != nil || s != want {
			t.Errorf("P3.1: Text of the kind %d and more: %s, %v, not %s", kind, s, err, want)
		}
	}
	for want, v := range map[string]value.Value{
		`"a"`:     {Kind: value.Text, Text: "a", Yes: true, Int: 1, List: all.List, Map: all.Map},
		`["a"]`:   {Kind: value.List, List: []value.Value{str("a")}, Yes: true, Int: 1, Text: "\xff", Map: all.Map},
		`{"a":1}`: {Kind: value.Map, Map: []value.Member{{Key: "a", Value: num(1)}}, Yes: true, Int: 1, Text: "\xff", List: all.List},
		"false":   {Kind: value.Bool, Int: 1, Text: "\xff", List: all.List, Map: all.Map},
	} {
		if s, err := Text(v); err != nil || s != want {
			t.Errorf("P3.1: Text of what has more: %s, %v, not %s", s, err, want)
		}
	}
}

func TestTextWrong(t *testing.T) {
	for _, x := range []struct {
		v    value.Value
		code api.Code
	}{
		{value.Value{Kind: -1}, api.ErrKind}, {value.Value{Kind: 6}, api.ErrKind}, {list(value.Value{Kind: 9}), api.ErrKind},
		{num(api.MaxInt + 1), api.ErrNumber}, {num(-api.MaxInt - 1), api.ErrNumber}, {list(num(1), mapOf("a", num(-1<<63))), api.ErrNumber},
		{str("\xff"), api.ErrText}, {str("a\xc3"), api.ErrText}, {mapOf("\xed\xa0\x80", num(1)), api.ErrText}, {mapOf("a", str("\x80")), api.ErrText},
		{mapOf("a", num(1), "a", num(1)), api.ErrTwice}, {mapOf("b", num(1), "a", num(1)), api.ErrForm}, {list(mapOf("a", num(1), "", num(2))), api.ErrForm},
		{inLists(num(1), api.MaxDepth+1), api.ErrDeep}, {inMaps(list(), api.MaxDepth), api.ErrDeep}, {inLists(mapOf(), 100000), api.ErrDeep},
	} {
		s, err := Text(x.v)
		if s != "" || !errors.Is(err, x.code) {
			t.Errorf("P3.1: Text of what isn't right: %s, %v, not code %d", s, err, x.code)
		}
		if want := value.Check(x.v); !reflect.DeepEqual(err, want) {
			t.Errorf("P3.1: Text's error is %v, Check's %v", err, want)
		}
	}
}

// letters is how each byte that doesn't stand as it is stands between quotes.
func letters() []string {
	l := []string{`"`, `\"`, `\`, `\\`, "\x08", `\b`, "\x0c", `\f`, "\x0a", `\n`, "\x0d", `\r`, "\x09", `\t`}
	for c := range byte(0x20) {
		if !slices.Contains(l, string(rune(c))) {
			l = append(l, string(rune(c)), fmt.Sprintf(`\u%04x`, c))
		}
	}
	return l
}

func TestQuote(t *testing.T) {
	for s, want := range map[string]string{
		"": `""`, "a": `"a"`, `"`: `"\""`, `\`: `"\\"`, `\"`: `"\\\""`, `\n`: `"\\n"`, "/": `"/"`, "'": `"'"`, "<&>": `"<&>"`,
		"\x08\x0c\x0a\x0d\x09": `"\b\f\n\r\t"`, "\x00": `"\u0000"`, "\x07\x0b\x0e\x0f": `"\u0007\u000b\u000e\u000f"`, "\x1a\x1f": `"\u001a\u001f"`,
		" ": `" "`, "\x7f": "\"\x7f\"", "é": `"é"`, "\u0080\u009f": "\"\u0080\u009f\"", "\u2028\u2029\ufeff": "\"\u2028\u2029\ufeff\"", "\ufffd": "\"\ufffd\"", "\U0001f600": "\"\U0001f600\"", "\U0010ffff": "\"\U0010ffff\"",
		"a\"\\\x1f\té": `"a\"\\\u001f\té"`,
	} {
		if got := Quote(s); got != want {
			t.Errorf("P3.1: Quote(%q): %s, not %s", s, got, want)
		}
	}
	plain := strings.NewReplacer(letters()...)
	for r := range rune(utf8.MaxRune + 1) {
		if s := string(r); Quote(s) != `"`+plain.Replace(s)+`"` {
			t.Fatalf("P3.1: Quote(%q): %s", s, Quote(s))
		}
	}
	long := strings.Repeat("é\n", api.MaxBytes)
	if Quote(long) != `"`+strings.Repeat(`é\n`, api.MaxBytes)+`"` {
		t.Error("P3.1: Quote of a long text is another one")
	}
}

func TestQuoteWrong(t *testing.T) {
	// Nothing is promised of what is no UTF-8, but that the call ends and doesn't panic.
	for c := range 256 {
		Quote(string([]byte{byte(c)}))
		Quote(string([]byte{'a', byte(c), '"'}))
	}
}

func TestSum(t *testing.T) {
	for s, want := range map[string]string{
		"": "cbf29ce484222325", "a": "af63dc4c8601ec8c", "foobar": "85944171f73967e8", "\x00": "af63bd4c8601b7df", "\xff": "af64724c8602eb6e",
	} {
		if got := Sum(s); got != want {
			t.Errorf("P3.1: Sum(%q): %s, not %s", s, got, want)
		}
	}
	draw := rand.New(rand.NewSource(3))
	short := 0
	for range 20000 {
		b := make([]byte, draw.Intn(40))
		draw.Read(b)
		h := fnv.New64a()
		h.Write(b)
		want := fmt.Sprintf("%016x", h.Sum64())
		if got := Sum(string(b)); got != want {
			t.Fatalf("P3.1: Sum(%q): %s, not %s", b, got, want)
		}
		if strings.HasPrefix(want, "00") {
			short++
		}
	}
	if short == 0 {
		t.Error("P3.1: no sum with zeros ahead was looked at")
	}
}

// maker makes right values, often small ones, so that some are made twice.
type maker struct{ *rand.Rand }

func (m maker) text() string {
	parts := []string{"", "a", "b", "\"", "\\", "\n", "\x00", "\x1f", "\x7f", "é", ",", ":", "]", "\U0001f600", "\\u0061", "null"}
	s := ""
	for range m.Intn(3) {
		s += parts[m.Intn(len(parts))]
	}
	return s
}

func (m maker) value(depth int) value.Value {
	switch kind := m.Intn(6); {
	case kind == 0:
		return value.Value{}
	case kind == 1:
		return yes(m.Intn(2) == 0)
	case kind == 2:
		return num([]int{0, 1, -1, 10, m.Intn(100), api.MaxInt, -api.MaxInt}[m.Intn(7)])
	case kind == 3 || depth == 0:
		return str(m.text())
	case kind == 4:
		var l []value.Value
		for range m.Intn(4) {
			l = append(l, m.value(depth-1))
		}
		return list(l...)
	}
	known := map[string]value.Value{}
	for range m.Intn(4) {
		known[m.text()] = m.value(depth - 1)
	}
	var l []value.Member
	for k, v := range known {
		l = append(l, value.Member{Key: k, Value: v})
	}
	v, _ := value.Members(l...)
	return v
}

func TestThereAndBack(t *testing.T) {
	m := maker{rand.New(rand.NewSource(1))}
	known := map[string]value.Value{}
	var made []value.Value
	for range 20000 {
		v := m.value(m.Intn(4))
		s, err := Text(v)
		if err != nil {
			t.Fatalf("P3.2: Text(%v): %v", v, err)
		}
		back, err := scan.Parse([]byte(s))
		if err != nil || !value.Same(v, back) {
			t.Fatalf("P3.2: Text(%v) is %s, which parsed is %v, %v", v, s, back, err)
		}
		again, err := Text(back)
		if err != nil || again != s {
			t.Fatalf("P3.2: %s, parsed, has the text %s, %v", s, again, err)
		}
		if old, ok := known[s]; ok && !value.Same(old, v) {
			t.Fatalf("P3.2: %v and %v have one text, %s", old, v, s)
		}
		known[s] = v
		made = append(made, v)
	}
	for i, a := range made[:300] {
		for _, b := range made[i:300] {
			s, _ := Text(a)
			r, _ := Text(b)
			if value.Same(a, b) != (s == r) {
				t.Fatalf("P3.2: %v and %v have the texts %s and %s", a, b, s, r)
			}
		}
	}
}

func TestLongest(t *testing.T) {
	// The limit of bytes is the parser's: a text beyond it is told, too.
	fits := str(strings.Repeat("x", api.MaxBytes-2))
	s, err := Text(fits)
	back, e := scan.Parse([]byte(s))
	if err != nil || e != nil || !value.Same(fits, back) {
		t.Errorf("P3.2: a text of MaxBytes, parsed, is another value: %v, %v", err, e)
	}
	s, err = Text(list(fits))
	if _, e = scan.Parse([]byte(s)); err != nil || len(s) != api.MaxBytes+2 || !errors.Is(e, api.ErrLong) {
		t.Errorf("P3.2: a text beyond MaxBytes: %d bytes, %v, %v", len(s), err, e)
	}
}

func TestUnchanged(t *testing.T) {
	fresh := func() value.Value {
		v := mapOf("a", list(num(1), str("\n")), "b", mapOf("c", list()))
		v.List = []value.Value{num(5)}
		v.Map = append(v.Map, value.Member{Key: "spare", Value: num(9)})[:2]
		return v
	}
	v := fresh()
	Text(v)
	want := fresh()
	if !reflect.DeepEqual(v, want) || !reflect.DeepEqual(v.Map[:3], want.Map[:3]) {
		t.Errorf("P7: R6: Text changed its argument: %v", v)
	}
	if s, err := Text(v); err != nil || s != `{"a":[1,"\n"],"b":{"c":[]}}` {
		t.Errorf("P7: R8: Text of the same again: %s, %v", s, err)
	}
}
