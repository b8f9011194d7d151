package event

import (
	"fmt"
	"hash/fnv"
	"math"
	"reflect"
	"slices"
	"strconv"
	"strings"
	"testing"

	"enfilade/api"
	"enfilade/value"
)

// ref is the event's id of a number.
func ref(n int) string { return fmt.Sprintf("$%016x", n) }

// refsUpTo is so many ids, rising.
func refsUpTo(n int) []string {
	var l []string
	for i := range n {
		l = append(l, ref(i))
	}
	return l
}

// mapOf is a map of keys and values by turns.
func mapOf(l ...any) value.Value {
	v := value.Value{Kind: value.Map}
	for i := 0; i < len(l); i += 2 {
		v.Map = append(v.Map, value.Member{Key: l[i].(string), Value: l[i+1].(value.Value)})
	}
	return v
}

// listOf is a list.
func listOf(l ...value.Value) value.Value { return value.Value{Kind: value.List, List: l} }

// inLists is a value in so many lists.
func inLists(v value.Value, times int) value.Value {
	for range times {
		v = listOf(v)
	}
	return v
}

// base is a right state event, but for its id.
func base() Event {
	return Event{
		Room: "!a:x", Sender: "@ann:x", Type: "m.room.topic", State: true, Content: mapOf("topic", text("é\n")),
		Ts: 7, Depth: 2, Prev: []string{ref(0xa0), ref(0xa1)}, Auth: []string{ref(0xb0)},
	}
}

// with is the base, changed.
func with(change func(e *Event)) Event {
	e := base()
	change(&e)
	return e
}

// wrapped tells whether an error is just that code, in one Fault for each of the fields (parted by /), none with a place.
func wrapped(err error, code api.Code, path string) bool {
	if path != "" {
		for field := range strings.SplitSeq(path, "/") {
			f, ok := err.(*api.Fault)
			if !ok || f.At != -1 || f.Field != field {
				return false
			}
			err = f.Why
		}
	}
	c, ok := err.(api.Code)
	return ok && c == code
}

// idOf is the id of an event whose value has that canonical text.
func idOf(text string) string {
	h := fnv.New64a()
	h.Write([]byte(text))
	return fmt.Sprintf("$%016x", h.Sum64())
}

const baseText = `{"auth_events":["$00000000000000b0"],"content":{"topic":"é\n"},"depth":2,"origin_server_ts":7,"prev_events":["$00000000000000a0","$00000000000000a1"],"room_id":"!a:x","sender":"@ann:x","state_key":"","type":"m.room.topic"}`

func TestValue(t *testing.T) {
	for _, x := range []struct {
		e    Event
		want value.Value
	}{
		{base(), mapOf("auth_events", value.Texts(ref(0xb0)), "content", mapOf("topic", text("é\n")), "depth", number(2), "origin_server_ts", number(7), "prev_events", value.Texts(ref(0xa0), ref(0xa1)), "room_id", text("!a:x"), "sender", text("@ann:x"), "state_key", text(""), "type", text("m.room.topic"))},
		{with(func(e *Event) { e.Key, e.Id = "k", "$x" }), mapOf("auth_events", value.Texts(ref(0xb0)), "content", mapOf("topic", text("é\n")), "depth", number(2), "origin_server_ts", number(7), "prev_events", value.Texts(ref(0xa0), ref(0xa1)), "room_id", text("!a:x"), "sender", text("@ann:x"), "state_key", text("k"), "type", text("m.room.topic"))},
		{Event{}, mapOf("auth_events", listOf(), "content", value.Value{}, "depth", number(0), "origin_server_ts", number(0), "prev_events", listOf(), "room_id", text(""), "sender", text(""), "type", text(""))},
		// Of any: what is wrong stands there as it is; a state key that is none doesn't.
		{Event{Id: "i", Room: "\xff", Sender: "s", Type: "t", Key: "k", Content: value.Value{Kind: 9}, Ts: math.MinInt, Depth: math.MaxInt, Prev: []string{"b", "a", "a"}, Auth: []string{"\x80"}},
			mapOf("auth_events", value.Texts("\x80"), "content", value.Value{Kind: 9}, "depth", number(math.MaxInt), "origin_server_ts", number(math.MinInt), "prev_events", value.Texts("b", "a", "a"), "room_id", text("\xff"), "sender", text("s"), "type", text("t"))},
		{Event{State: true, Content: mapOf("b", number(1), "a", inLists(number(2), 30), "a", text("\xff"))},
			mapOf("auth_events", listOf(), "content", mapOf("b", number(1), "a", inLists(number(2), 30), "a", text("\xff")), "depth", number(0), "origin_server_ts", number(0), "prev_events", listOf(), "room_id", text(""), "sender", text(""), "state_key", text(""), "type", text(""))},
	} {
		if got := x.e.Value(); !value.Same(got, x.want) {
			t.Errorf("P5.1: Value of %v: %v, not %v", x.e, got, x.want)
		}
	}
	long := Event{Prev: refsUpTo(1000), Content: inLists(number(1), 200000)}
	if v := long.Value(); len(v.Map[4].Value.List) != 1000 || value.Depth(v) != 200001 {
		t.Error("P5.1: Value of what is too great is another one")
	}
}

func TestSign(t *testing.T) {
	for _, x := range []struct {
		e    Event
		text string
	}{
		{base(), baseText},
		{with(func(e *Event) { e.Id = "$0000000000000000" }), baseText},
		{with(func(e *Event) { e.Id = "\xff" }), baseText},
		{with(func(e *Event) { e.Key = "k" }), strings.Replace(baseText, `"state_key":""`, `"state_key":"k"`, 1)},
		{with(func(e *Event) { e.State = false }), strings.Replace(baseText, `"state_key":"",`, "", 1)},
		{with(func(e *Event) { e.Prev, e.Auth, e.Content = nil, []string{}, mapOf() }), `{"auth_events":[],"content":{},"depth":2,"origin_server_ts":7,"prev_events":[],"room_id":"!a:x","sender":"@ann:x","state_key":"","type":"m.room.topic"}`},
		{with(func(e *Event) { e.Content = mapOf("a", listOf(value.Value{}, number(-1)), "b", mapOf()) }), strings.Replace(baseText, `{"topic":"é\n"}`, `{"a":[null,-1],"b":{}}`, 1)},
		{with(func(e *Event) { e.Ts, e.Depth, e.Type = api.MaxInt, api.MaxEvents, "\x00\"" }), strings.NewReplacer(`:7,`, ":9007199254740991,", `:2,`, ":2000,", "m.room.topic", `\u0000\"`).Replace(baseText)},
	} {
		want := x.e
		want.Id = idOf(x.text)
		got := x.e.Sign()
		if !Same(got, want) {
			t.Errorf("P5.1: Sign of %v: %v, not with the id of %s", x.e, got, x.text)
		}
		if err := got.Check(); err != nil {
			t.Errorf("P5.1: Check of what was signed: %v", err)
		}
		if !Same(got.Sign(), got) {
			t.Errorf("P5.1: Sign of what is signed: %v", got.Sign())
		}
	}
}

// fault is a way to be wrong, and what is told of it.
type fault struct {
	place int // of the field, in the order in which they are looked at
	code  api.Code
	path  string
	spoil func(e *Event)
}

// faults are ways to be wrong, of each field several.
func faults() []fault {
	var l []fault
	add := func(place int, code api.Code, path string, spoil func(e *Event)) {
		l = append(l, fault{place, code, path, spoil})
	}
	long := strings.Repeat("x", api.MaxType+1)
	for _, s := range []string{"", "!", "!a", "a:x", "@a:x", "#a:x", "!:x", "!a:", "!a:X", "!a b:x", "!é:x", "\xff", ref(1), "!" + strings.Repeat("a", api.MaxName+1) + ":x", "!a:" + strings.Repeat("a", api.MaxName+1)} {
		add(0, api.ErrName, "room_id", func(e *Event) { e.Room = s })
	}
	for _, s := range []string{"", "@", "@a", "a:x", "!a:x", "#a:x", "@:x", "@a:", "@A:x", "@a:x:", "\xff", ref(1), "@" + strings.Repeat("a", api.MaxName+1) + ":x"} {
		add(1, api.ErrName, "sender", func(e *Event) { e.Sender = s })
	}
	for _, s := range []string{"\xff", "a\xc3", "\xed\xa0\x80", "\xff" + long} {
		add(2, api.ErrText, "type", func(e *Event) { e.Type = s })
		add(3, api.ErrText, "state_key", func(e *Event) { e.Key = s })
		add(3, api.ErrText, "state_key", func(e *Event) { e.Key, e.State = s, false })
	}
	for _, s := range []string{long, strings.Repeat("é", api.MaxType/2) + "x", strings.Repeat("\U0001f600", api.MaxType)} {
		add(2, api.ErrLong, "type", func(e *Event) { e.Type = s })
		add(3, api.ErrLong, "state_key", func(e *Event) { e.Key = s })
		add(3, api.ErrLong, "state_key", func(e *Event) { e.Key, e.State = s, false })
	}
	add(2, api.ErrLong, "type", func(e *Event) { e.Type = "" })
	for _, s := range []string{"x", "@ann:x", "\x00", strings.Repeat("x", api.MaxType)} {
		add(3, api.ErrForm, "state_key", func(e *Event) { e.Key, e.State = s, false })
	}
	for _, x := range []struct {
		v    value.Value
		code api.Code
		path string
	}{
		{value.Value{Kind: 9}, api.ErrKind, "content"}, {value.Value{Kind: -1}, api.ErrKind, "content"}, {number(api.MaxInt + 1), api.ErrNumber, "content"}, {text("\xff"), api.ErrText, "content"},
		{value.Value{}, api.ErrKind, "content"}, {value.Value{Kind: value.Bool, Yes: true}, api.ErrKind, "content"}, {number(1), api.ErrKind, "content"}, {text("{}"), api.ErrKind, "content"}, {listOf(), api.ErrKind, "content"}, {listOf(mapOf()), api.ErrKind, "content"},
		{listOf(number(1), text("\xff")), api.ErrText, "content/1"}, {mapOf("a", value.Value{Kind: 6}), api.ErrKind, "content/a"},
		{mapOf("a", number(1), "b", listOf(number(0), number(-api.MaxInt-1))), api.ErrNumber, "content/b/1"},
		{mapOf("a", number(1), "a", number(1)), api.ErrTwice, "content/a"}, {mapOf("b", number(1), "a", number(1)), api.ErrForm, "content/a"}, {mapOf("\xff", number(1)), api.ErrText, "content/\xff"},
		{mapOf("a", inLists(listOf(), api.MaxDepth-1)), api.ErrDeep, "content/a" + strings.Repeat("/0", api.MaxDepth-1)},
		{inLists(mapOf(), 50), api.ErrDeep, "content" + strings.Repeat("/0", api.MaxDepth)},
	} {
		add(4, x.code, x.path, func(e *Event) { e.Content = x.v })
	}
	for _, n := range []int{-1, -api.MaxInt, math.MinInt, api.MaxInt + 1, math.MaxInt} {
		add(5, api.ErrRange, "origin_server_ts", func(e *Event) { e.Ts = n })
	}
	for _, n := range []int{0, -1, math.MinInt, api.MaxEvents + 1, math.MaxInt} {
		add(6, api.ErrRange, "depth", func(e *Event) { e.Depth = n })
	}
	for i, key := range []string{"prev_events", "auth_events"} {
		for _, x := range []struct {
			ids  []string
			code api.Code
			path string
		}{
			{refsUpTo(api.MaxRefs + 1), api.ErrLong, ""}, {make([]string, 1000), api.ErrLong, ""},
			{[]string{""}, api.ErrName, "/0"}, {[]string{"\xff"}, api.ErrName, "/0"}, {[]string{"!a:x"}, api.ErrName, "/0"}, {[]string{ref(1)[:16]}, api.ErrName, "/0"}, {[]string{ref(1) + "0"}, api.ErrName, "/0"}, {[]string{"$000000000000000A"}, api.ErrName, "/0"}, {[]string{"0000000000000001a"}, api.ErrName, "/0"},
			{[]string{ref(1), ref(2), "x"}, api.ErrName, "/2"}, {append(refsUpTo(api.MaxRefs-1), ""), api.ErrName, "/9"},
			{[]string{ref(1), ref(1)}, api.ErrForm, "/1"}, {[]string{ref(2), ref(1)}, api.ErrForm, "/1"}, {[]string{ref(1), ref(3), ref(2)}, api.ErrForm, "/2"}, {append(refsUpTo(api.MaxRefs-1), ref(7)), api.ErrForm, "/9"},
			// Each is looked at whole ahead of the next.
			{[]string{ref(2), ref(1), "x"}, api.ErrForm, "/1"}, {[]string{ref(2), "x", ref(1)}, api.ErrName, "/1"}, {[]string{ref(2), "$"}, api.ErrName, "/1"},
		} {
			add(7+i, x.code, key+x.path, func(e *Event) { *[]*[]string{&e.Prev, &e.Auth}[i] = x.ids })
		}
	}
	add(9, api.ErrDeep, "", func(e *Event) { e.Content = mapOf("a", inLists(number(1), api.MaxDepth-1)) })
	add(9, api.ErrDeep, "", func(e *Event) {
		e.Content = mapOf("a", inLists(text(strings.Repeat("x", api.MaxBytes)), api.MaxDepth-1))
	})
	add(10, api.ErrLong, "", func(e *Event) { e.Content = mapOf("a", text(strings.Repeat("x", api.MaxBytes))) })
	return l
}

// tells holds what is told of an event against a code and a path: of one that is wrong but for its id.
func tells(t *testing.T, e Event, code api.Code, path string) {
	t.Helper()
	if err := e.Check(); !wrapped(err, code, path) {
		t.Fatalf("P5.1: Check of %.200v: %v, not code %d in %s", e, err, code, path)
	}
	want := e
	want.Id = ""
	if got := e.Sign(); !Same(got, want) {
		t.Fatalf("P5.1: Sign of a wrong event: %.300v", got)
	}
}

func TestCheckWrong(t *testing.T) {
	for _, id := range []string{"", base().Sign().Id, ref(1), "x"} {
		for _, f := range faults() {
			e := base()
			e.Id = id
			f.spoil(&e)
			tells(t, e, f.code, f.path)
		}
	}
}

func TestCheckOrder(t *testing.T) {
	// Of two fields that are wrong the first is told. (It is the content that makes an event too deep, or too long: those two aren't wrong beside it, or beside each other.)
	all := faults()
	for _, a := range all {
		for _, b := range all {
			if a.place >= b.place || (a.place == 4 || a.place == 9) && b.place > 8 {
				continue
			}
			e := base()
			b.spoil(&e)
			a.spoil(&e)
			tells(t, e, a.code, a.path)
		}
	}
}

func TestDeepest(t *testing.T) {
	e := base()
	e.Content = mapOf("a", inLists(mapOf(), 300000))
	tells(t, e, api.ErrDeep, "content/a"+strings.Repeat("/0", api.MaxDepth-1))
	refuses(t, e.Value(), api.ErrDeep, "content/a"+strings.Repeat("/0", api.MaxDepth-1))
}

func TestCheckId(t *testing.T) {
	right := base().Sign()
	if err := right.Check(); err != nil {
		t.Fatalf("P5.1: Check of a right event: %v", err)
	}
	for _, id := range []string{"", "$", "x", "\xff", right.Id[1:], right.Id + "0", " " + right.Id, strings.ToUpper(right.Id), ref(0)} {
		e := right
		e.Id = id
		if err := e.Check(); !wrapped(err, api.ErrSum, "id") {
			t.Errorf("P5.1: Check of the id %q: %v", id, err)
		}
	}
	for i, change := range []func(e *Event){
		func(e *Event) { e.Room = "!b:x" }, func(e *Event) { e.Sender = "@bob:x" }, func(e *Event) { e.Type = "t" }, func(e *Event) { e.Key = "k" }, func(e *Event) { e.State = false },
		func(e *Event) { e.Content = mapOf() }, func(e *Event) { e.Ts = 8 }, func(e *Event) { e.Depth = 3 }, func(e *Event) { e.Prev = nil }, func(e *Event) { e.Auth = nil },
		func(e *Event) { e.Prev, e.Auth = e.Auth, e.Prev },
	} {
		e := right.Copy()
		change(&e)
		if err := e.Check(); !wrapped(err, api.ErrSum, "id") {
			t.Errorf("P5.1: Check of an event that was changed behind its signing, %d: %v", i, err)
		}
	}
}

func TestCheckEdges(t *testing.T) {
	great := strings.Repeat("x", api.MaxType)
	for i, change := range []func(e *Event){
		func(e *Event) {
			e.Room = "!" + strings.Repeat("A", api.MaxName) + ":" + strings.Repeat("a", api.MaxName) + ":99999"
		},
		func(e *Event) {
			e.Sender = "@" + strings.Repeat("=", api.MaxName) + ":" + strings.Repeat("-", api.MaxName) + ":0"
		},
		func(e *Event) { e.Type = "x" }, func(e *Event) { e.Type = great }, func(e *Event) { e.Type = strings.Repeat("é", api.MaxType/2) }, func(e *Event) { e.Type = "\x00" }, func(e *Event) { e.Type = "\U0010ffff\ufffd" },
		func(e *Event) { e.Key = "" }, func(e *Event) { e.Key = "x" }, func(e *Event) { e.Key = great }, func(e *Event) { e.Key = strings.Repeat("é", api.MaxType/2) }, func(e *Event) { e.Key = "@bob:y" },
		func(e *Event) { e.State, e.Key = false, "" }, func(e *Event) { e.State, e.Type = false, "m.room.create" },
		func(e *Event) { e.Content = mapOf() }, func(e *Event) { e.Content = value.Value{Kind: value.Map, Map: []value.Member{}} },
		func(e *Event) {
			e.Content = value.Value{Kind: value.Map, Int: math.MinInt, Text: "\xff", List: []value.Value{{Kind: 9}}}
		},
		func(e *Event) { e.Content = mapOf("a", inLists(number(1), api.MaxDepth-2)) },
		func(e *Event) { e.Ts = 0 }, func(e *Event) { e.Ts = api.MaxInt },
		func(e *Event) { e.Depth = 1 }, func(e *Event) { e.Depth = api.MaxEvents },
		func(e *Event) { e.Prev = nil }, func(e *Event) { e.Prev = []string{} }, func(e *Event) { e.Prev = []string{ref(0)} }, func(e *Event) { e.Prev = refsUpTo(api.MaxRefs) }, func(e *Event) { e.Prev = []string{"$0000000000000000", "$ffffffffffffffff"} },
		func(e *Event) { e.Auth = nil }, func(e *Event) { e.Auth = []string{} }, func(e *Event) { e.Auth = refsUpTo(api.MaxRefs) }, func(e *Event) { e.Auth = e.Prev },
	} {
		e := with(change).Sign()
		if err := e.Check(); err != nil || e.Id == "" {
			t.Errorf("P5.1: Check of a right event, %d: %v", i, err)
		}
		if got, err := Read(e.Value()); err != nil || !Same(got, e) {
			t.Errorf("P5.2: Read of a right event's value, %d: %v, %v", i, got, err)
		}
	}
}

func TestLongest(t *testing.T) {
	// The whole value's text counts, in bytes as it is told, escapes too.
	for _, letter := range []struct {
		s    string
		size int
	}{{"x", 1}, {"é", 2}, {"\n", 2}, {"\x00", 6}, {"\"", 2}} {
		about := len(strings.Replace(baseText, `"topic":"é\n"`, `"a":"","b":""`, 1))
		n := (api.MaxBytes - about) / letter.size
		fill := strings.Repeat("y", (api.MaxBytes-about)%letter.size)
		fits := with(func(e *Event) {
			e.Content = mapOf("a", text(strings.Repeat(letter.s, n)), "b", text(fill))
		}).Sign()
		if err := fits.Check(); err != nil {
			t.Errorf("P5.1: Check of an event of MaxBytes of %q: %v", letter.s, err)
		}
		if got, err := Read(fits.Value()); err != nil || !Same(got, fits) {
			t.Errorf("P5.2: Read of an event of MaxBytes: %v", err)
		}
		over := fits
		over.Content = mapOf("a", text(strings.Repeat(letter.s, n)), "b", text(fill+"y"))
		tells(t, over, api.ErrLong, "")
		if got, err := Read(over.Value()); !wrapped(err, api.ErrLong, "") || !reflect.DeepEqual(got, Event{}) {
			t.Errorf("P5.1: Read of an event beyond MaxBytes: %v, %v", got, err)
		}
		other := fits
		other.Key = "k"
		tells(t, other, api.ErrLong, "")
	}
	// Neither is a list of ids, nor a number, left out of it.
	e := with(func(e *Event) { e.Prev, e.Auth, e.Ts = refsUpTo(9), nil, 9 })
	e.Content = mapOf("a", text(strings.Repeat("x", api.MaxBytes-len(textOf(e))-len(`"a":""`)+len(`"topic":"é\n"`))))
	if len(textOf(e)) != api.MaxBytes || e.Sign().Check() != nil {
		t.Errorf("P5.1: an event of %d bytes: %v", len(textOf(e)), e.Sign().Check())
	}
	e.Ts = 10
	tells(t, e, api.ErrLong, "")
	e.Ts, e.Prev = 9, refsUpTo(10)
	tells(t, e, api.ErrLong, "")
}

// textOf is the text of an event whose strings need no escapes, but for a line's end.
func textOf(e Event) string {
	quote := func(s string) string { return `"` + strings.ReplaceAll(s, "\n", `\n`) + `"` }
	ids := func(l []string) string {
		var q []string
		for _, s := range l {
			q = append(q, quote(s))
		}
		return "[" + strings.Join(q, ",") + "]"
	}
	var content []string
	for _, m := range e.Content.Map {
		content = append(content, quote(m.Key)+":"+quote(m.Value.Text))
	}
	key := ""
	if e.State {
		key = `"state_key":` + quote(e.Key) + ","
	}
	return `{"auth_events":` + ids(e.Auth) + `,"content":{` + strings.Join(content, ",") + `},"depth":` + strconv.Itoa(e.Depth) + `,"origin_server_ts":` + strconv.Itoa(e.Ts) +
		`,"prev_events":` + ids(e.Prev) + `,"room_id":` + quote(e.Room) + `,"sender":` + quote(e.Sender) + `,` + key + `"type":` + quote(e.Type) + "}"
}

func TestCopy(t *testing.T) {
	for _, e := range []Event{
		{}, base(), base().Sign(), {Id: "\xff", Key: "k", Ts: math.MinInt, Depth: math.MaxInt, Prev: []string{"b", "a"}, Auth: []string{"\x80"}, Content: value.Value{Kind: 9}},
		{Content: inLists(mapOf("b", number(1), "a", text("x")), 300000)}, {Prev: []string{}, Auth: []string{}},
	} {
		if got := e.Copy(); !Same(got, e) {
			t.Errorf("P5.1: Copy is another one: %.300v", got)
		}
	}
}

func TestSame(t *testing.T) {
	e := base().Sign()
	e.Key = "k"
	if !Same(e, e) || !Same(e, e.Copy()) || !Same(Event{}, Event{}) {
		t.Error("P5.1: Same of one and itself: false")
	}
	for i, change := range []func(e *Event){
		func(e *Event) { e.Id = "" }, func(e *Event) { e.Room = "" }, func(e *Event) { e.Sender = "" }, func(e *Event) { e.Type = "" }, func(e *Event) { e.Key = "" }, func(e *Event) { e.State = false },
		func(e *Event) { e.Content = mapOf() }, func(e *Event) { e.Content = mapOf("topic", text("x")) }, func(e *Event) { e.Content = value.Value{Kind: 9} },
		func(e *Event) { e.Ts++ }, func(e *Event) { e.Depth++ },
		func(e *Event) { e.Prev = e.Prev[:1] }, func(e *Event) { e.Prev = []string{e.Prev[1], e.Prev[0]} }, func(e *Event) { e.Prev = append(e.Prev, "") }, func(e *Event) { e.Prev = nil },
		func(e *Event) { e.Auth = nil }, func(e *Event) { e.Auth = []string{""} }, func(e *Event) { e.Auth = append(e.Auth, ref(0xb1)) },
	} {
		other := e.Copy()
		change(&other)
		if Same(e, other) || Same(other, e) {
			t.Errorf("P5.1: Same of two that aren't, %d: true", i)
		}
	}
	// What doesn't count in a content doesn't count here; nil lists are empty ones.
	a, b := base(), base()
	a.Prev, b.Prev, a.Auth, b.Auth = nil, []string{}, []string{}, nil
	a.Content, b.Content = mapOf(), value.Value{Kind: value.Map, Int: 1, Text: "x", Map: []value.Member{}}
	if !Same(a, b) {
		t.Error("P5.1: Same of two without lists: false")
	}
	a.Content = inLists(number(1), 300000)
	if !Same(a, a.Copy()) {
		t.Error("P5.1: Same of deep contents: false")
	}
}

func TestOrder(t *testing.T) {
	// Rising: by depth, then by time, then by id; nothing else counts.
	rising := []Event{
		{Depth: math.MinInt, Ts: math.MaxInt, Id: "z"}, {Depth: -1, Ts: 5, Id: "y"}, {Id: ""}, {Id: "$"}, {Id: ref(1)}, {Id: ref(2)}, {Id: "a"}, {Id: "\xff"}, {Ts: 1}, {Ts: 2, Id: "b"}, {Ts: math.MaxInt},
		{Depth: 1, Ts: math.MinInt, Id: "q"}, {Depth: 1, Ts: -1}, {Depth: 1, Id: "A"}, {Depth: 1, Id: "a"}, {Depth: 1, Ts: 1, Id: "A"}, {Depth: 2}, {Depth: 10}, {Depth: math.MaxInt, Ts: math.MinInt},
	}
	for i, a := range rising {
		for j, b := range rising {
			want := 0
			if i < j {
				want = -1
			}
			if i > j {
				want = 1
			}
			b.Room, b.Sender, b.Type, b.Key, b.State, b.Content, b.Prev, b.Auth = "r", "s", "t", "k", true, mapOf(), []string{"p"}, []string{"a"}
			if got := Order(a, b); got != want {
				t.Errorf("P5.1: Order of %v and %v: %d", a, b, got)
			}
		}
	}
}

// shared changes all the memory that an event has, spare room included.
func shared(e Event) {
	for _, l := range [][]string{e.Prev, e.Auth} {
		for i := range l[:cap(l)] {
			l[:cap(l)][i] = "spoilt"
		}
	}
	spoil(e.Content)
}

// spoil changes all the memory that a value has, spare room included.
func spoil(v value.Value) {
	for i, part := range v.List[:cap(v.List)] {
		spoil(part)
		v.List[:cap(v.List)][i] = text("spoilt")
	}
	for i, m := range v.Map[:cap(v.Map)] {
		spoil(m.Value)
		v.Map[:cap(v.Map)][i] = value.Member{Key: "spoilt"}
	}
}

// roomy is a right event, all of whose lists have spare room.
func roomy() Event {
	e := base()
	e.Content = mapOf("a", listOf(number(1), mapOf("b", text("c"))), "d", number(2), "spare", number(3))
	e.Content.Map = e.Content.Map[:2]
	e.Content.Map[0].Value.List = append(e.Content.Map[0].Value.List, number(9))[:2]
	e.Prev = append(e.Prev, "spare")[:2]
	e.Auth = append(e.Auth, "spare")[:1]
	return e
}

// whole is an event with the spare room of its lists.
func whole(e Event) []any {
	return []any{e, e.Prev[:cap(e.Prev)], e.Auth[:cap(e.Auth)], e.Content.Map[:cap(e.Content.Map)]}
}

func TestMemory(t *testing.T) {
	e, want := roomy().Sign(), roomy().Sign()
	in := roomy()
	in.Id = e.Id
	before := whole(roomy())
	before[0] = with(func(x *Event) { *x = roomy(); x.Id = e.Id })
	in.Value()
	in.Sign()
	in.Check()
	in.Copy()
	Same(in, e)
	Order(in, e)
	if !reflect.DeepEqual(whole(in), before) {
		t.Errorf("P7: R6: a call changed its event: %v", in)
	}
	shared(in.Copy())
	shared(in.Sign())
	spoil(in.Value())
	if !reflect.DeepEqual(whole(in), before) {
		t.Error("P7: R6: an answer shares memory with its event")
	}
	v := e.Value()
	got, err := Read(v)
	if err != nil || !Same(got, want) || !value.Same(v, want.Value()) {
		t.Errorf("P7: R6: Read: %v, %v", got, err)
	}
	shared(got)
	if !value.Same(v, want.Value()) {
		t.Error("P7: R6: Read shares memory with its value")
	}
	got, _ = Read(v)
	spoil(v)
	if !Same(got, want) {
		t.Error("P7: R6: Read keeps its value")
	}
	b := []byte(baseText)
	got, err = Parse(b)
	if string(b) != baseText {
		t.Error("P7: R6: Parse changed its bytes")
	}
	for i := range b {
		b[i] = 'x'
	}
	if err != nil || !Same(got, base().Sign()) {
		t.Errorf("P7: R6: Parse keeps its bytes: %v, %v", got, err)
	}
	// Lists without anything have no spare room in common either.
	none := Event{Prev: make([]string, 0, 4), Auth: make([]string, 0, 4), Content: value.Value{Kind: value.Map, Map: make([]value.Member, 0, 4)}}
	for _, c := range []Event{none.Copy(), none.Sign()} {
		shared(c)
	}
	spoil(none.Value())
	if !slices.Equal(none.Prev[:4], make([]string, 4)) || !slices.Equal(none.Auth[:4], make([]string, 4)) || none.Content.Map[:4][0].Key != "" {
		t.Error("P7: R6: an answer shares spare room with its event")
	}
	l := []string{ref(1), ref(2)}
	e = with(func(e *Event) { e.Prev, e.Auth = l, l })
	c := e.Copy()
	c.Prev[0] = "x"
	if c.Auth[0] != ref(1) {
		t.Error("P7: R6: two lists of one answer share memory")
	}
}
