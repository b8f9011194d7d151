package power

import (
	"errors"
	"math"
	"reflect"
	"slices"
	"strings"
	"testing"

	"enfilade/api"
	"enfilade/scan"
	"enfilade/value"
)

// R11: just these fields, in this order (an unkeyed literal is built of no other).
var _ = Levels{1, 2, 3, 4, 5, 6, 7, []Named{{"m", 8}}, []Named{{"@ann:x", 9}}}

// order is the keys in the order in which they are looked at; of two a map stands.
var order = []string{"ban", "events", "events_default", "invite", "kick", "redact", "state_default", "users", "users_default"}

func isList(key string) bool { return key == "events" || key == "users" }

func num(n int) value.Value                    { return value.Value{Kind: value.Int, Int: n} }
func mapOf(l ...value.Member) value.Value      { return value.Value{Kind: value.Map, Map: l} }
func m(key string, v value.Value) value.Member { return value.Member{Key: key, Value: v} }

// others are values of each kind, and of none.
func others() []value.Value {
	return []value.Value{{}, {Kind: value.Bool, Yes: true}, num(1), {Kind: value.Text, Text: "50"}, {Kind: value.List}, value.Texts("a"), mapOf(), mapOf(m("@a:x", num(1))), {Kind: 6}, {Kind: -1}}
}

// parse is a text's value.
func parse(t *testing.T, s string) value.Value {
	t.Helper()
	v, err := scan.Parse([]byte(s))
	if err != nil {
		t.Fatalf("%s: %v", s, err)
	}
	return v
}

// plain is the levels that stand, if nothing else is told.
func plain() Levels { return Levels{Ban: 50, Kick: 50, Redact: 50, StateDefault: 50} }

// same: are two levels one (of no list nil, too)?
func same(a, b Levels) bool {
	if !slices.Equal(a.Events, b.Events) || !slices.Equal(a.Users, b.Users) {
		return false
	}
	a.Events, a.Users, b.Events, b.Users = nil, nil, nil, nil
	return reflect.DeepEqual(a, b)
}

// wrapped tells whether an error is just that code, in one Fault for each of the fields, none with a place.
func wrapped(err error, code api.Code, fields ...string) bool {
	for _, field := range fields {
		f, ok := err.(*api.Fault)
		if !ok || f.At != -1 || f.Field != field {
			return false
		}
		err = f.Why
	}
	c, ok := err.(api.Code)
	return ok && c == code
}

// refuses holds what Read says of a content against a code and its fields.
func refuses(t *testing.T, v value.Value, code api.Code, fields ...string) {
	t.Helper()
	if l, err := Read(v); !wrapped(err, code, fields...) || !errors.Is(err, code) || !reflect.DeepEqual(l, Levels{}) {
		t.Fatalf("P9.1: Read of %.300v: %v, %v, not code %d in %q", v, l, err, code, fields)
	}
}

// reads holds what Read says of a content against levels.
func reads(t *testing.T, v value.Value, want Levels) {
	t.Helper()
	if l, err := Read(v); err != nil || !same(l, want) {
		t.Fatalf("P9.1: Read of %.300v: %v, %v, not %v", v, l, err, want)
	}
}

func TestNone(t *testing.T) {
	for creator, users := range map[string][]Named{"": nil, "@ann:x": {{"@ann:x", 100}}, "ann": {{"ann", 100}}} {
		want := Levels{Ban: 50, Kick: 50, Redact: 50, Users: users}
		if l := None(creator); !same(l, want) {
			t.Errorf("P9.1: None(%q): %v", creator, l)
		}
	}
	l := None("@ann:x")
	if l.User("@ann:x") != 100 || l.User("@bob:x") != 0 || l.User("") != 0 || l.Needs("a", true) != 0 || l.Needs("a", false) != 0 {
		t.Errorf("P9.1: None: %v", l)
	}
	if None("").User("") != 0 {
		t.Error("P9.1: None of no creator has a user")
	}
	l.Users[0].Level = 7
	if None("@ann:x").Users[0].Level != 100 {
		t.Error("P7: R6: two answers of None share memory")
	}
}

func TestRead(t *testing.T) {
	for s, set := range map[string]func(l *Levels){
		`{}`:                                 func(l *Levels) {},
		`{"ban":1}`:                          func(l *Levels) { l.Ban = 1 },
		`{"events_default":1}`:               func(l *Levels) { l.EventsDefault = 1 },
		`{"invite":1}`:                       func(l *Levels) { l.Invite = 1 },
		`{"kick":1}`:                         func(l *Levels) { l.Kick = 1 },
		`{"redact":1}`:                       func(l *Levels) { l.Redact = 1 },
		`{"state_default":1}`:                func(l *Levels) { l.StateDefault = 1 },
		`{"users_default":1}`:                func(l *Levels) { l.UsersDefault = 1 },
		`{"state_default":0}`:                func(l *Levels) { l.StateDefault = 0 },
		`{"ban":-9007199254740991}`:          func(l *Levels) { l.Ban = -api.MaxInt },
		`{"kick":9007199254740991}`:          func(l *Levels) { l.Kick = api.MaxInt },
		`{"users":{}}`:                       func(l *Levels) {},
		`{"events":{}}`:                      func(l *Levels) {},
		`{"users":{"@b:x":2,"@a:x":-1}}`:     func(l *Levels) { l.Users = []Named{{"@a:x", -1}, {"@b:x", 2}} },
		`{"events":{"m":3,"":1,"@a":0}}`:     func(l *Levels) { l.Events = []Named{{"", 1}, {"@a", 0}, {"m", 3}} },
		`{"more":[],"Ban":1,"ban ":{},"":0}`: func(l *Levels) {},
		`{"notifications":{"room":20}}`:      func(l *Levels) {},
		`{"ban":1,"events":{"m":8},"events_default":2,"invite":3,"kick":4,"redact":5,"state_default":6,"users":{"@a:x":9},"users_default":7}`: func(l *Levels) {
			*l = Levels{1, 4, 5, 3, 6, 2, 7, []Named{{"m", 8}}, []Named{{"@a:x", 9}}}
		},
	} {
		want := plain()
		set(&want)
		reads(t, parse(t, s), want)
	}
}

// A content that isn't right is read as it stands: a key's first member, all members of a list, any number.
func TestReadNotRight(t *testing.T) {
	want := plain()
	want.Ban, want.Kick = math.MinInt, math.MaxInt
	want.Events = []Named{{"z", 1}, {"a", 2}, {"z", 3}, {"\xff", 4}}
	want.Users = []Named{{"@b:x", 5}, {"@a:x", 6}, {"@b:x", 7}}
	events := mapOf(m("z", num(1)), m("a", num(2)), m("z", num(3)), m("\xff", num(4)))
	users := mapOf(m("@b:x", num(5)), m("@a:x", num(6)), m("@b:x", num(7)))
	v := mapOf(m("users", users), m("kick", num(math.MaxInt)), m("events", events), m("ban", num(math.MinInt)), m("ban", num(7)), m("\xff", num(8)), m("users", mapOf()), m("events", num(1)))
	reads(t, v, want)
	l, err := Read(v)
	if err != nil || l.User("@b:x") != 5 || l.User("@a:x") != 6 || l.Needs("z", true) != 1 || l.Needs("a", false) != 2 {
		t.Errorf("P9.1: of lists in any order the first of a name counts: %v, %v", l, err)
	}
	// What a kind doesn't use doesn't count.
	v.List, v.Text, v.Int = []value.Value{num(1)}, "x", 4
	for i := range v.Map {
		v.Map[i].Value.Text = "x"
		v.Map[i].Value.List = []value.Value{num(1)}
	}
	reads(t, v, want)
}

func TestReadKinds(t *testing.T) {
	for _, no := range others() {
		if no.Kind != value.Map {
			no.Map = []value.Member{m("ban", num(1))}
			refuses(t, no, api.ErrKind)
		}
	}
	for _, key := range order {
		for _, other := range others() {
			fits := other.Kind == value.Int
			if isList(key) {
				fits = other.Kind == value.Map
			}
			if fits {
				continue
			}
			refuses(t, mapOf(m(key, other)), api.ErrKind, key)
			refuses(t, mapOf(m("a", other), m(key, other), m(key, num(1)), m(key, mapOf())), api.ErrKind, key)
		}
	}
}

func TestReadMembers(t *testing.T) {
	for _, other := range others() {
		if other.Kind == value.Int {
			continue
		}
		for key, name := range map[string]string{"events": "m", "users": "@ann:x"} {
			refuses(t, mapOf(m(key, mapOf(m(name, other)))), api.ErrKind, key, name)
			refuses(t, mapOf(m(key, mapOf(m("@a:x", num(1)), m(name, other), m("@b:x", other), m("no", num(1))))), api.ErrKind, key, name)
		}
		// The name is looked at ahead of its number, and the members one by one.
		refuses(t, mapOf(m("users", mapOf(m("ann", other), m("@b:x", other)))), api.ErrName, "users", "ann")
		refuses(t, mapOf(m("users", mapOf(m("@a:x", other), m("@b", num(1))))), api.ErrKind, "users", "@a:x")
	}
	for _, name := range []string{"", "ann", "@ann", "@:x", "@ann:", "!ann:x", "#ann:x", "$0123456789abcdef", "@Ann:x", "@ann:X", "@ann:x:", " @ann:x", "@ann:x\n", "\xff", "@" + strings.Repeat("a", 51) + ":x"} {
		refuses(t, mapOf(m("users", mapOf(m("@a:x", num(1)), m(name, num(1))))), api.ErrName, "users", name)
		want := plain()
		want.Events = []Named{{name, 1}}
		reads(t, mapOf(m("events", mapOf(m(name, num(1))))), want)
	}
	name := "@" + strings.Repeat("a", 50) + ":x:80"
	want := plain()
	want.Users = []Named{{name, 1}}
	reads(t, mapOf(m("users", mapOf(m(name, num(1))))), want)
}

// Of two wrong keys the first, in the keys' order, is told, whichever stands first, and whatever is wrong.
func TestReadOrder(t *testing.T) {
	for i, a := range order {
		for _, b := range order[i+1:] {
			wrong := []value.Value{{}}
			if isList(b) {
				wrong = append(wrong, mapOf(m("ann", value.Value{})))
			}
			for _, w := range wrong {
				refuses(t, mapOf(m(b, w), m(a, value.Value{})), api.ErrKind, a)
				refuses(t, mapOf(m(a, value.Value{}), m(b, w)), api.ErrKind, a)
				if a == "events" {
					refuses(t, mapOf(m(b, w), m(a, mapOf(m("m", value.Value{})))), api.ErrKind, a, "m")
				}
				if a == "users" {
					refuses(t, mapOf(m(b, w), m(a, mapOf(m("ann", value.Value{})))), api.ErrName, a, "ann")
				}
			}
		}
	}
}

func TestUser(t *testing.T) {
	l := Levels{UsersDefault: -3, Users: []Named{{"@c:x", 1}, {"@a:x", 0}, {"@c:x", 2}, {"@a:x", 5}, {"", 7}}, Events: []Named{{"@d:x", 9}}}
	for name, want := range map[string]int{"@c:x": 1, "@a:x": 0, "": 7, "@d:x": -3, "@C:x": -3, "@c:x ": -3} {
		if n := l.User(name); n != want {
			t.Errorf("P9.1: User(%q): %d, not %d", name, n, want)
		}
	}
	if n := (Levels{UsersDefault: 4}).User("@a:x"); n != 4 {
		t.Errorf("P9.1: User without a list: %d", n)
	}
}

func TestNeeds(t *testing.T) {
	l := Levels{StateDefault: 50, EventsDefault: -2, UsersDefault: 9, Events: []Named{{"m", 1}, {"a", 0}, {"m", 2}, {"", 7}}, Users: []Named{{"b", 9}}}
	for typ, want := range map[string][2]int{"m": {1, 1}, "a": {0, 0}, "": {7, 7}, "b": {50, -2}, "M": {50, -2}, "m.": {50, -2}} {
		if state, not := l.Needs(typ, true), l.Needs(typ, false); state != want[0] || not != want[1] {
			t.Errorf("P9.1: Needs(%q): %d, %d, not %v", typ, state, not, want)
		}
	}
	if l := (Levels{}); l.User("a") != 0 || l.Needs("a", true) != 0 || l.Needs("a", false) != 0 {
		t.Error("P9.1: levels of noughts")
	}
}

func TestExample(t *testing.T) {
	l, err := Read(parse(t, `{"users":{"@ann:x":100}}`))
	if err != nil || l.User("@ann:x") != 100 || l.User("@bob:x") != 0 || l.Needs("m.room.name", true) != 50 || l.Needs("m.room.message", false) != 0 {
		t.Errorf("P9.1: the example: %v, %v", l, err)
	}
}

func TestReadMemory(t *testing.T) {
	spare := append(make([]value.Member, 0, 8), m("@a:x", num(1)), m("@b:x", num(2)))
	v := mapOf(m("users", mapOf(spare...)), m("events", mapOf(m("m", num(3)))))
	before := value.Copy(v)
	a, _ := Read(v)
	b, _ := Read(v)
	want, _ := Read(before)
	for i := range a.Users {
		a.Users[i] = Named{"x", -1}
	}
	a.Events[0].Level = -1
	_, _ = append(a.Users, Named{"y", 7}), append(a.Events, Named{"y", 7})
	if !value.Same(v, before) || !reflect.DeepEqual(spare[2:3][0], value.Member{}) {
		t.Error("P7: R6: Read changed the content, or shares its memory")
	}
	if !same(b, want) {
		t.Error("P7: R6: two answers of Read share memory")
	}
	spare[0] = m("no", value.Value{})
	if !same(b, want) {
		t.Error("P7: R6: Read kept the content")
	}
	_, one := Read(value.Value{Kind: value.Map, Map: []value.Member{m("ban", value.Value{})}})
	_, two := Read(value.Value{Kind: value.Map, Map: []value.Member{m("ban", value.Value{})}})
	if one.(*api.Fault) == two.(*api.Fault) {
		t.Error("P7: R6: two answers are one Fault")
	}
}
