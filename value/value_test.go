package value

import (
	"errors"
	"math"
	"reflect"
	"runtime/debug"
	"testing"

	"enfilade/api"
)

func yes(b bool) Value          { return Value{Kind: Bool, Yes: b} }
func num(n int) Value           { return Value{Kind: Int, Int: n} }
func str(s string) Value        { return Value{Kind: Text, Text: s} }
func list(l ...Value) Value     { return Value{Kind: List, List: l} }
func members(l ...Member) Value { return Value{Kind: Map, Map: l} }

// nest is a value in so many lists.
func nest(v Value, times int) Value {
	for range times {
		v = list(v)
	}
	return v
}

// nestMaps is a value in so many maps.
func nestMaps(v Value, times int) Value {
	for range times {
		v = members(Member{"k", v})
	}
	return v
}

// repeat is a field, so many times.
func repeat(field string, times int) []string {
	var l []string
	for range times {
		l = append(l, field)
	}
	return l
}

// wrapped tells whether an error is just that code, in one Fault for each of the fields, none with a place.
func wrapped(err error, code api.Code, fields ...string) bool {
	for _, field := range fields {
		f, ok := err.(*api.Fault)
		if !ok || f.At != -1 || f.Field != field {
			return false
		}
		err = f.Why
	}
	c, ok := err.(api.Code)
	return ok && c == code
}

// junk is v with something in all the fields that its kind doesn't use.
func junk(v Value) Value {
	if v.Kind != Bool {
		v.Yes = true
	}
	if v.Kind != Int {
		v.Int = math.MinInt
	}
	if v.Kind != Text {
		v.Text = "\xff"
	}
	if v.Kind != List {
		v.List = []Value{nest(Value{Kind: 99}, 30)}
	}
	if v.Kind != Map {
		v.Map = []Member{{"b", num(7)}, {"b", num(8)}, {"\xff", num(9)}}
	}
	return v
}

// rights are right values of every kind, with the edges.
func rights() []Value {
	return []Value{
		{},
		yes(false), yes(true),
		num(0), num(1), num(-1), num(api.MaxInt), num(-api.MaxInt),
		str(""), str("x"), str("é"), str("\x00"), str("\ufffd"), str("\U0010ffff"),
		list(), list(list()), list(num(1), str("x"), Value{}),
		members(), members(Member{"", num(1)}), members(Member{"", num(1)}, Member{"\x00", num(2)}, Member{"a", num(3)}, Member{"aa", num(4)}, Member{"b", list(members())}),
		members(Member{"B", num(1)}, Member{"a", num(2)}, Member{"é", num(3)}, Member{"\uffff", num(4)}, Member{"\U00010000", num(5)}),
		nest(num(1), api.MaxDepth), nestMaps(str("x"), api.MaxDepth), nest(nestMaps(list(), 10), 9),
		list(nest(num(1), 19), nest(num(2), 19)),
	}
}

// R11: just these fields, in this order (an unkeyed literal is built of no other).
var _ = Value{Map, false, 0, "", []Value(nil), []Member{{"", Value{}}}}

func TestKinds(t *testing.T) {
	if Null != 0 || Bool != 1 || Int != 2 || Text != 3 || List != 4 || Map != 5 {
		t.Error("P1.1: the kinds' numbers")
	}
}

func TestCheckRight(t *testing.T) {
	for i, v := range rights() {
		if err := Check(v); err != nil {
			t.Errorf("P1.1: Check of right value %d: %v", i, err)
		}
		if err := Check(junk(v)); err != nil {
			t.Errorf("P1.1: what value %d doesn't use counts: %v", i, err)
		}
	}
}

func TestCheckAlone(t *testing.T) {
	for i, x := range []struct {
		v    Value
		code api.Code
	}{
		{num(api.MaxInt + 1), api.ErrNumber},
		{num(-api.MaxInt - 1), api.ErrNumber},
		{num(math.MaxInt), api.ErrNumber},
		{num(math.MinInt), api.ErrNumber},
		{str("\xff"), api.ErrText},
		{str("ab\xc3"), api.ErrText},
		{str("\xc0\x80"), api.ErrText},
		{str("\xed\xa0\x80"), api.ErrText},
		{str("\xf4\x90\x80\x80"), api.ErrText},
		{Value{Kind: Map + 1}, api.ErrKind},
		{Value{Kind: -1}, api.ErrKind},
		{Value{Kind: math.MaxInt}, api.ErrKind},
		{Value{Kind: math.MinInt}, api.ErrKind},
	} {
		if err := Check(x.v); !wrapped(err, x.code) {
			t.Errorf("P1.1: Check %d: %v", i, err)
		}
		if err := Check(junk(x.v)); !wrapped(err, x.code) {
			t.Errorf("P1.1: Check %d, with what doesn't count: %v", i, err)
		}
		if err := Check(list(num(0), members(Member{"", list(x.v)}))); !wrapped(err, x.code, "1", "", "0") {
			t.Errorf("P1.1: Check %d within a value: %v", i, err)
		}
	}
}

func TestCheckDeep(t *testing.T) {
	for i, x := range []struct {
		v      Value
		fields []string
	}{
		{nest(list(), 20), repeat("0", 20)},
		{nest(members(), 20), repeat("0", 20)},
		{nestMaps(list(), 20), repeat("k", 20)},
		{nestMaps(members(), 20), repeat("k", 20)},
		{nest(list(), 1000), repeat("0", 20)},
		{list(num(1), nest(members(), 19)), append([]string{"1"}, repeat("0", 19)...)},
		// Too deep is told ahead of what is wrong in the parts.
		{nest(list(num(math.MinInt)), 20), repeat("0", 20)},
		{nest(members(Member{"\xff", num(1)}), 20), repeat("0", 20)},
	} {
		if err := Check(x.v); !wrapped(err, api.ErrDeep, x.fields...) {
			t.Errorf("P1.1: Check deep %d: %v", i, err)
		}
	}
	// What is no list or map is never too deep.
	if err := Check(nest(str("\xff"), 20)); !wrapped(err, api.ErrText, repeat("0", 20)...) {
		t.Errorf("P1.1: Check of a text in 20 lists: %v", err)
	}
}

// A list that holds itself has no end, but it is soon too deep.
func TestCheckRing(t *testing.T) {
	l := []Value{list()}
	l[0].List = l
	if err := Check(list(l...)); !wrapped(err, api.ErrDeep, repeat("0", 20)...) {
		t.Errorf("P6: Check of a ring: %v", err)
	}
}

func TestCheckKeys(t *testing.T) {
	bad := num(1 << 60)
	for i, x := range []struct {
		v      Value
		code   api.Code
		fields []string
	}{
		{members(Member{"\xff", Value{}}), api.ErrText, []string{"\xff"}},
		{members(Member{"a", Value{}}, Member{"a", Value{}}), api.ErrTwice, []string{"a"}},
		{members(Member{"", Value{}}, Member{"", Value{}}), api.ErrTwice, []string{""}},
		{members(Member{"b", Value{}}, Member{"a", Value{}}), api.ErrForm, []string{"a"}},
		{members(Member{"a", Value{}}, Member{"", Value{}}), api.ErrForm, []string{""}},
		{members(Member{"aa", Value{}}, Member{"a", Value{}}), api.ErrForm, []string{"a"}},
		{members(Member{"é", Value{}}, Member{"z", Value{}}), api.ErrForm, []string{"z"}},
		// By bytes, not by the code units of UTF-16.
		{members(Member{"\U00010000", Value{}}, Member{"\uffff", Value{}}), api.ErrForm, []string{"\uffff"}},
		// The same as an earlier one, but not as the one ahead.
		{members(Member{"a", Value{}}, Member{"b", Value{}}, Member{"a", Value{}}), api.ErrForm, []string{"a"}},
		// A key that isn't UTF-8 is told so ahead of what else is wrong with it.
		{members(Member{"é", Value{}}, Member{"\xa0", Value{}}), api.ErrText, []string{"\xa0"}},
		// A member's key ahead of its value, a member's value ahead of the next key.
		{members(Member{"\xff", bad}), api.ErrText, []string{"\xff"}},
		{members(Member{"a", Value{}}, Member{"a", bad}), api.ErrTwice, []string{"a"}},
		{members(Member{"b", Value{}}, Member{"a", bad}), api.ErrForm, []string{"a"}},
		{members(Member{"b", bad}, Member{"a", Value{}}), api.ErrNumber, []string{"b"}},
		{members(Member{"b", bad}, Member{"\xff", Value{}}), api.ErrNumber, []string{"b"}},
		// Within other values.
		{list(Value{}, members(Member{"x", members(Member{"c", Value{}}, Member{"c", Value{}})})), api.ErrTwice, []string{"1", "x", "c"}},
	} {
		if err := Check(x.v); !wrapped(err, x.code, x.fields...) {
			t.Errorf("P1.1: Check keys %d: %v", i, err)
		}
	}
}

func TestCheckFirst(t *testing.T) {
	if err := Check(list(str("\xff"), num(1<<60))); !wrapped(err, api.ErrText, "0") {
		t.Errorf("P1.1: the first of two: %v", err)
	}
	long := make([]Value, 12)
	long[11] = Value{Kind: 6}
	if err := Check(list(long...)); !wrapped(err, api.ErrKind, "11") {
		t.Errorf("P1.1: a number of two digits: %v", err)
	}
	v, err := Members(Member{"b", num(1)}, Member{"a", list(num(1 << 60))})
	if err != nil {
		t.Fatalf("P1.1: Members: %v", err)
	}
	err = Check(v)
	var f *api.Fault
	if !wrapped(err, api.ErrNumber, "a", "0") || !errors.Is(err, api.ErrNumber) || !errors.As(err, &f) || f.Field != "a" {
		t.Errorf("P1.1: the chapter's example: %v", err)
	}
}

func TestSame(t *testing.T) {
	kinds := append(rights(),
		Value{Kind: 6}, Value{Kind: -1},
		list(num(1)), list(num(2)), list(num(1), num(1)), list(str("1")), list(yes(true)), list(yes(false)),
		list(list(), num(1)), list(num(1), list()), list(list(num(1)), list(num(2))), list(list(num(2)), list(num(1))),
		members(Member{"a", num(1)}), members(Member{"a", num(2)}), members(Member{"b", num(1)}), members(Member{"a", list(num(1))}), members(Member{"a", list(num(2))}),
		members(Member{"a", num(1)}, Member{"b", num(2)}), members(Member{"b", num(2)}, Member{"a", num(1)}),
		members(Member{"a", num(1)}, Member{"a", num(1)}),
	)
	for i, a := range kinds {
		for j, b := range kinds {
			if Same(a, b) != (i == j) || Same(junk(a), b) != (i == j) || Same(a, junk(b)) != (i == j) {
				t.Errorf("P1.1: Same of %d and %d", i, j)
			}
		}
	}
	if !Same(Value{Kind: List, List: []Value{}}, Value{Kind: List}) || !Same(Value{Kind: Map, Map: []Member{}}, Value{Kind: Map}) {
		t.Error("P7: R5: Same of nil and empty")
	}
	if !Same(list(junk(num(1))), list(num(1))) || !Same(members(Member{"a", junk(Value{})}), members(Member{"a", Value{}})) {
		t.Error("P1.1: Same of parts with what doesn't count")
	}
}

func TestDepthAndSize(t *testing.T) {
	for i, x := range []struct {
		v           Value
		depth, size int
	}{
		{Value{}, 0, 1}, {yes(true), 0, 1}, {num(5), 0, 1}, {str("abc"), 0, 1}, {Value{Kind: 6}, 0, 1}, {Value{Kind: -1}, 0, 1},
		{list(), 1, 1}, {members(), 1, 1},
		{list(num(1)), 1, 2}, {list(num(1), str("x"), Value{}), 1, 4},
		{members(Member{"a", num(1)}, Member{"b", num(2)}), 1, 3},
		{members(Member{"a", num(1)}, Member{"a", num(1)}), 1, 3},
		{list(list()), 2, 2}, {list(members()), 2, 2}, {members(Member{"a", list()}), 2, 2},
		{list(nest(num(1), 3), num(1), list()), 4, 7},
		{list(num(1), list(), nest(num(1), 3)), 4, 7},
		{members(Member{"a", list(num(1), num(2))}, Member{"b", Value{}}), 2, 5},
		{nest(num(1), 50), 50, 51}, {nestMaps(list(), 50), 51, 51},
	} {
		if Depth(x.v) != x.depth || Depth(junk(x.v)) != x.depth {
			t.Errorf("P1.1: Depth %d: %d, %d", i, Depth(x.v), Depth(junk(x.v)))
		}
		if Size(x.v) != x.size || Size(junk(x.v)) != x.size {
			t.Errorf("P1.1: Size %d: %d, %d", i, Size(x.v), Size(junk(x.v)))
		}
	}
}

func TestGet(t *testing.T) {
	v := members(Member{"b", num(1)}, Member{"a", num(2)}, Member{"b", num(3)}, Member{"", num(4)}, Member{"\xff", num(5)}, Member{"n", Value{}})
	for key, n := range map[string]int{"b": 1, "a": 2, "": 4, "\xff": 5} {
		if x, ok := Get(v, key); !ok || !Same(x, num(n)) {
			t.Errorf("P1.1: Get %q: %v, %v", key, x, ok)
		}
	}
	if x, ok := Get(v, "n"); !ok || !Same(x, Value{}) {
		t.Errorf("P1.1: Get of nothing that is there: %v, %v", x, ok)
	}
	for i, x := range []Value{v, members(), {}, junk(Value{}), junk(list()), junk(str("b")), junk(Value{Kind: 6})} {
		key := "b"
		if i == 0 {
			key = "c"
		}
		if x, ok := Get(x, key); ok || !reflect.DeepEqual(x, Value{}) {
			t.Errorf("P1.1: Get %d of what isn't there: %v, %v", i, x, ok)
		}
	}
}

func TestMembers(t *testing.T) {
	v, err := Members(Member{"b", num(1)}, Member{"é", num(2)}, Member{"", num(3)}, Member{"a", list(num(4))}, Member{"B", num(5)}, Member{"aa", num(6)})
	want := members(Member{"", num(3)}, Member{"B", num(5)}, Member{"a", list(num(4))}, Member{"aa", num(6)}, Member{"b", num(1)}, Member{"é", num(2)})
	if err != nil || !Same(v, want) {
		t.Errorf("P1.1: Members: %v, %v", v, err)
	}
	if v, err := Members(); err != nil || !Same(v, members()) {
		t.Errorf("P1.1: Members of none: %v, %v", v, err)
	}
	// It makes maps of what isn't right, too: only Check tells.
	v, err = Members(Member{"\xff", Value{Kind: 6}}, Member{"a", num(math.MinInt)})
	if err != nil || !Same(v, members(Member{"a", num(math.MinInt)}, Member{"\xff", Value{Kind: 6}})) {
		t.Errorf("P1.1: Members of what isn't right: %v, %v", v, err)
	}
}

func TestMembersTwice(t *testing.T) {
	for i, x := range []struct {
		l   []Member
		key string
	}{
		{[]Member{{"a", num(1)}, {"a", num(1)}}, "a"},
		{[]Member{{"", num(1)}, {"", num(2)}}, ""},
		{[]Member{{"\xff", num(1)}, {"\xff", num(2)}}, "\xff"},
		{[]Member{{"c", num(1)}, {"b", num(1)}, {"c", num(1)}, {"a", num(1)}, {"b", num(1)}}, "b"},
		{[]Member{{"a", num(1)}, {"c", num(1)}, {"b", num(1)}, {"c", num(1)}, {"c", num(1)}}, "c"},
	} {
		v, err := Members(x.l...)
		if !wrapped(err, api.ErrTwice, x.key) || !reflect.DeepEqual(v, Value{}) {
			t.Errorf("P1.1: Members twice %d: %v, %v", i, v, err)
		}
	}
}

func TestTexts(t *testing.T) {
	if v := Texts("b", "", "a", "b", "\xff"); !Same(v, list(str("b"), str(""), str("a"), str("b"), str("\xff"))) {
		t.Errorf("P1.1: Texts: %v", v)
	}
	if v := Texts(); !Same(v, list()) {
		t.Errorf("P1.1: Texts of none: %v", v)
	}
}

func TestCopy(t *testing.T) {
	for i, v := range append(rights(), Value{Kind: 6}, Value{Kind: -1}, num(math.MinInt), nest(str("\xff"), 40), members(Member{"b", num(1)}, Member{"a", list(junk(num(2)))}, Member{"a", num(3)})) {
		if c := Copy(v); !Same(c, v) {
			t.Errorf("P1.1: Copy %d: %v", i, c)
		}
		if c := Copy(junk(v)); !Same(c, v) || c.Kind != List && len(c.List) > 0 || c.Kind != Map && len(c.Map) > 0 {
			t.Errorf("P1.1: Copy %d, with what doesn't count: %v", i, c)
		}
	}
}

// spoil changes all that v holds, spare room included.
func spoil(v Value) {
	l := v.List[:cap(v.List)]
	for i := range l {
		spoil(l[i])
		l[i] = str("spoilt")
	}
	m := v.Map[:cap(v.Map)]
	for i := range m {
		spoil(m[i].Value)
		m[i] = Member{"spoilt", str("spoilt")}
	}
}

// sample is a value with lists and maps in one another, two of them with spare room.
func sample() Value {
	room := make([]Value, 2, 5)
	room[0], room[1] = num(1), list(str("x"))
	more := make([]Member, 1, 4)
	more[0] = Member{"k", list(num(2))}
	return members(Member{"a", Value{Kind: List, List: room}}, Member{"b", Value{Kind: Map, Map: more}}, Member{"c", Value{Kind: Bool, List: room, Map: more}})
}

func TestNewMemory(t *testing.T) {
	v := sample()
	c := Copy(v)
	spoil(c)
	if !reflect.DeepEqual(v, sample()) || v.Map[0].Value.List[:3][2].Kind != Null || v.Map[1].Value.Map[:2][1].Key != "" {
		t.Errorf("P7: R6: Copy shares: %v", v)
	}
	for _, key := range []string{"a", "b", "c"} {
		x, _ := Get(v, key)
		spoil(x)
		if !reflect.DeepEqual(v, sample()) {
			t.Errorf("P7: R6: Get of %s shares: %v", key, v)
		}
	}
	l := append(make([]Member, 0, 4), Member{"z", sample()}, Member{"y", sample()})
	x, err := Members(l...)
	if err != nil || !reflect.DeepEqual(l, []Member{{"z", sample()}, {"y", sample()}}) || l[:3][2].Key != "" {
		t.Errorf("P7: R6: Members changes what it is given: %v, %v", l, err)
	}
	spoil(x)
	if !reflect.DeepEqual(l, []Member{{"z", sample()}, {"y", sample()}}) {
		t.Errorf("P7: R6: Members shares: %v", l)
	}
	shared := list(num(1))
	twice := Copy(list(shared, shared))
	twice.List[0].List[0] = num(2)
	if !Same(twice, list(list(num(2)), list(num(1)))) {
		t.Errorf("P7: R6: two lists of a copy share: %v", twice)
	}
}

func TestNothingChanged(t *testing.T) {
	v, w := sample(), sample()
	Check(v)
	Same(v, w)
	Depth(v)
	Size(v)
	if !reflect.DeepEqual(v, sample()) || !reflect.DeepEqual(w, sample()) {
		t.Errorf("P7: R6: an argument was changed: %v, %v", v, w)
	}
}

// allParts is v and all that is within it.
func allParts(v Value) []Value {
	l := []Value{v}
	for _, x := range v.List {
		l = append(l, allParts(x)...)
	}
	for _, m := range v.Map {
		l = append(l, allParts(m.Value)...)
	}
	return l
}

func TestPartsOfRight(t *testing.T) {
	for i, v := range rights() {
		for _, x := range allParts(v) {
			if err := Check(x); err != nil {
				t.Errorf("P1.2: a part of right value %d: %v", i, err)
			}
		}
	}
}

func TestMembersAreRight(t *testing.T) {
	keys := []string{"é", "a", "", "\U00010000", "\uffff", "aa", "\x00", "B"}
	all := rights()
	for i := range all {
		var l []Member
		deepest := 0
		for j, key := range keys {
			x := all[(i+j*(i+1))%len(all)]
			l = append(l, Member{key, x})
			deepest = max(deepest, Depth(x))
		}
		v, err := Members(l...)
		if err != nil || Depth(v) != deepest+1 {
			t.Fatalf("P1.2: Members of right values %d: %v", i, err)
		}
		err = Check(v)
		if deepest < api.MaxDepth && err != nil || deepest == api.MaxDepth && !errors.Is(err, api.ErrDeep) {
			t.Errorf("P1.2: a map of right values %d, %d deep: %v", i, deepest+1, err)
		}
	}
	v, err := Members(Member{"k", nest(num(1), api.MaxDepth-1)})
	if err != nil || Check(v) != nil {
		t.Errorf("P1.2: a map just as deep as it may be: %v", err)
	}
	v, err = Members(Member{"k", nest(num(1), api.MaxDepth)})
	if err != nil || !wrapped(Check(v), api.ErrDeep, append([]string{"k"}, repeat("0", 19)...)...) {
		t.Errorf("P1.2: a map that is too deep: %v", err)
	}
}

// A value that isn't right may be deeper than calls within calls can be: that is no reason to stop.
// A small stack stands for a whole one here, so that a value of some megabytes will do.
func TestVeryDeep(t *testing.T) {
	defer debug.SetMaxStack(debug.SetMaxStack(1 << 22))
	const depth = 1 << 17
	v := nest(num(1), depth)
	if Depth(v) != depth || Size(v) != depth+1 {
		t.Error("P6: Depth or Size of a very deep value")
	}
	c := Copy(v)
	if !Same(v, c) || Same(c, nest(num(2), depth)) {
		t.Error("P6: Copy or Same of a very deep value")
	}
	if x, ok := Get(members(Member{"k", v}), "k"); !ok || !Same(x, v) {
		t.Error("P6: Get of a very deep value")
	}
	if x, err := Members(Member{"k", v}); err != nil || Depth(x) != depth+1 {
		t.Error("P6: Members of a very deep value")
	}
	if !wrapped(Check(v), api.ErrDeep, repeat("0", 20)...) {
		t.Error("P6: Check of a very deep value")
	}
}
