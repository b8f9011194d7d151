package event

import (
	"errors"
	"math/rand"
	"reflect"
	"regexp"
	"slices"
	"strconv"
	"strings"
	"testing"
	"unicode/utf8"

	"enfilade/api"
	"enfilade/canon"
	"enfilade/scan"
	"enfilade/value"
)

// order is the keys in the order in which they are looked at, with their kinds.
var order = []struct {
	key  string
	kind value.Kind
}{
	{"room_id", value.Text}, {"sender", value.Text}, {"type", value.Text}, {"state_key", value.Text}, {"content", value.Map},
	{"origin_server_ts", value.Int}, {"depth", value.Int}, {"prev_events", value.List}, {"auth_events", value.List},
}

// put is a map with another value for a key, that is there.
func put(v value.Value, key string, to value.Value) value.Value {
	c := value.Copy(v)
	for i := range c.Map {
		if c.Map[i].Key == key {
			c.Map[i].Value = to
		}
	}
	return c
}

// drop is a map without a key.
func drop(v value.Value, key string) value.Value {
	c := value.Copy(v)
	c.Map = slices.DeleteFunc(c.Map, func(m value.Member) bool { return m.Key == key })
	return c
}

// refuses holds what Read says of a value against a code and a path.
func refuses(t *testing.T, v value.Value, code api.Code, path string) {
	t.Helper()
	if e, err := Read(v); !wrapped(err, code, path) || !reflect.DeepEqual(e, Event{}) {
		t.Fatalf("P5.1: Read of %.300v: %v, %v, not code %d in %s", v, e, err, code, path)
	}
}

// others are values of each kind, and of none.
func others() []value.Value {
	return []value.Value{{}, {Kind: value.Bool, Yes: true}, number(1), text("{}"), text(""), listOf(), listOf(text("a")), mapOf(), mapOf("a", number(1)), {Kind: 6}, {Kind: -1}}
}

func TestReadKinds(t *testing.T) {
	v := base().Value()
	for _, no := range others() {
		if no.Kind != value.Map {
			// What isn't used of it doesn't make it a map.
			no.Map = v.Map
			refuses(t, no, api.ErrKind, "")
		}
	}
	refuses(t, mapOf(), api.ErrKind, "room_id")
	for _, o := range order {
		for _, other := range others() {
			if other.Kind != o.kind {
				refuses(t, put(v, o.key, other), api.ErrKind, o.key)
			}
		}
		if o.key != "state_key" {
			refuses(t, drop(v, o.key), api.ErrKind, o.key)
		}
	}
	for _, key := range []string{"prev_events", "auth_events"} {
		for _, other := range others() {
			if other.Kind != value.Text {
				refuses(t, put(v, key, listOf(other)), api.ErrKind, key+"/0")
				refuses(t, put(v, key, listOf(text(ref(1)), text("x"), other, number(1))), api.ErrKind, key+"/2")
				refuses(t, put(v, key, listOf(append(value.Texts(refsUpTo(30)...).List, other)...)), api.ErrKind, key+"/30")
			}
		}
	}
	e, err := Read(drop(v, "state_key"))
	if want := with(func(e *Event) { e.State = false }).Sign(); err != nil || !Same(e, want) {
		t.Errorf("P5.1: Read without a state key: %v, %v", e, err)
	}
}

func TestReadOrder(t *testing.T) {
	v := base().Value()
	// Of two keys of other kinds, or missing, the first is told.
	for i, a := range order {
		for _, b := range order[i+1:] {
			for _, x := range []value.Value{put(v, b.key, value.Value{}), drop(v, b.key)} {
				refuses(t, put(x, a.key, value.Value{}), api.ErrKind, a.key)
				if a.key != "state_key" {
					refuses(t, drop(x, a.key), api.ErrKind, a.key)
				}
			}
		}
	}
	wrong := listOf(text("x"), number(1))
	refuses(t, put(put(v, "prev_events", wrong), "auth_events", value.Value{}), api.ErrKind, "prev_events/1")
	refuses(t, put(put(v, "prev_events", wrong), "depth", text("")), api.ErrKind, "depth")
	// Kinds are looked at ahead of all else that may be wrong.
	for _, f := range faults() {
		e := base()
		f.spoil(&e)
		if !e.State || e.Content.Kind != value.Map {
			continue
		}
		for i, o := range order {
			if i != f.place {
				refuses(t, put(e.Value(), o.key, value.Value{Kind: 8}), api.ErrKind, o.key)
			}
		}
	}
}

func TestReadWrong(t *testing.T) {
	for _, f := range faults() {
		e := base()
		f.spoil(&e)
		v := e.Value()
		if f.place == 3 && !e.State {
			// Such a key isn't in the value: what is left may be right.
			continue
		}
		if f.place == 4 && e.Content.Kind != value.Map {
			refuses(t, v, api.ErrKind, "content")
			continue
		}
		refuses(t, v, f.code, f.path)
	}
	e := Event{Room: "!a:x", Sender: "@a:x", Type: "t", Key: "k", Content: mapOf(), Depth: 1}
	got, err := Read(e.Value())
	e.Key = ""
	if err != nil || !Same(got, e.Sign()) {
		t.Errorf("P5.1: Read of the value of one with a key that is no state event: %v, %v", got, err)
	}
}

func TestReadMore(t *testing.T) {
	want := base().Sign()
	v := base().Value()
	l := append(slices.Clone(v.Map), value.Member{Key: "id", Value: text("x")}, value.Member{Key: "event_id", Value: number(1)}, value.Member{Key: "", Value: value.Value{}},
		value.Member{Key: "Type", Value: text("T")}, value.Member{Key: "unsigned", Value: inLists(number(1), 15)}, value.Member{Key: "zz", Value: text(strings.Repeat("x", api.MaxBytes))})
	more, err := value.Members(l...)
	if err != nil {
		t.Fatal(err)
	}
	if got, err := Read(more); err != nil || !Same(got, want) {
		t.Errorf("P5.1: Read of what has more keys: %v, %v", got, err)
	}
	// The value itself needn't be right: keys that aren't named may be anything, others stand anywhere, and the first counts.
	odd := value.Copy(v)
	slices.Reverse(odd.Map)
	odd.Map = append(odd.Map, value.Member{Key: "\xff", Value: value.Value{Kind: 9}}, value.Member{Key: "deep", Value: inLists(number(1), 1000)}, value.Member{Key: "room_id", Value: number(1)}, value.Member{Key: "content", Value: value.Value{}})
	odd.List, odd.Text, odd.Int = []value.Value{number(1)}, "\xff", 5
	if got, err := Read(odd); err != nil || !Same(got, want) {
		t.Errorf("P5.1: Read of a value that isn't right: %v, %v", got, err)
	}
	odd.Map = append([]value.Member{{Key: "room_id", Value: number(1)}}, odd.Map...)
	refuses(t, odd, api.ErrKind, "room_id")
}

func TestParse(t *testing.T) {
	want := base().Sign()
	for _, s := range []string{
		baseText, " " + strings.ReplaceAll(baseText, `,"`, " ,\n\t\"") + "\r\n",
		`{"type":"m.room.topic","state_key":"","sender":"@ann:x","room_id":"!\u0061:x","prev_events":["$00000000000000a0","$00000000000000a1"],"origin_server_ts":7,"id":"$","depth":2,"content":{"topic":"\u00e9\u000a"},"auth_events":["$00000000000000b0"],"unsigned":{"b":1,"a":[2]}}`,
	} {
		if e, err := Parse([]byte(s)); err != nil || !Same(e, want) {
			t.Errorf("P5.1: Parse of %s: %v, %v", s, e, err)
		}
	}
	deep := func(n int) string {
		return strings.Replace(baseText, `"é\n"`, strings.Repeat("[", n)+strings.Repeat("]", n), 1)
	}
	if e, err := Parse([]byte(deep(api.MaxDepth - 2))); err != nil || e.Check() != nil {
		t.Errorf("P5.1: Parse of an event of MaxDepth: %v", err)
	}
	for _, s := range []string{
		"", " ", "{", "nul", "[1", `{"a" 1}`, `{"a":1.5}`, `{"a":9007199254740992}`, `{"a":1,"a":2}`, "{\"\xff\":1}", baseText + "x", baseText[:len(baseText)-1],
		strings.Replace(baseText, ":7,", ":07,", 1), strings.Replace(baseText, ":7,", ":9007199254740992,", 1), strings.Replace(baseText, `"depth"`, `"type"`, 1), deep(api.MaxDepth - 1),
		baseText + strings.Repeat(" ", api.MaxBytes),
	} {
		e, err := Parse([]byte(s))
		if _, wantErr := scan.Parse([]byte(s)); wantErr == nil || !reflect.DeepEqual(err, wantErr) || !reflect.DeepEqual(e, Event{}) {
			t.Errorf("P5.1: Parse of %.100s: %v, %v, not %v", s, e, err, wantErr)
		}
	}
	for _, x := range []struct {
		s    string
		code api.Code
		path string
	}{
		{"null", api.ErrKind, ""}, {"[]", api.ErrKind, ""}, {"7", api.ErrKind, ""}, {`"{}"`, api.ErrKind, ""}, {"{}", api.ErrKind, "room_id"}, {"[" + baseText + "]", api.ErrKind, ""},
		{strings.Replace(baseText, `"$00000000000000a1"`, "null", 1), api.ErrKind, "prev_events/1"}, {strings.Replace(baseText, `"state_key":""`, `"state_key":null`, 1), api.ErrKind, "state_key"},
		{strings.Replace(baseText, "@ann:x", "@Ann:x", 1), api.ErrName, "sender"}, {strings.Replace(baseText, "m.room.topic", "", 1), api.ErrLong, "type"},
	} {
		if e, err := Parse([]byte(x.s)); !wrapped(err, x.code, x.path) || !reflect.DeepEqual(e, Event{}) {
			t.Errorf("P5.1: Parse of %s: %v, %v, not code %d in %s", x.s, e, err, x.code, x.path)
		}
	}
	// The limit of bytes holds for what is parsed, blanks too.
	s := strings.Replace(baseText, `"é\n"`, `"`+strings.Repeat("\x7f", api.MaxBytes-len(baseText)+4)+`"`, 1)
	if e, err := Parse([]byte(s)); len(s) != api.MaxBytes || err != nil || e.Check() != nil {
		t.Errorf("P5.1: Parse of MaxBytes: %v", err)
	}
	if _, err := Parse([]byte(s + " ")); !errors.Is(err, api.ErrLong) {
		t.Errorf("P5.1: Parse of MaxBytes and one: %v", err)
	}
}

// The patterns of names are a second reading of chapter 4's words.
var (
	roomName = regexp.MustCompile(`\A![A-Za-z0-9_.-]{1,50}:[a-z0-9.-]{1,50}(:[0-9]{1,5})?\z`)
	userName = regexp.MustCompile(`\A@[a-z0-9._=/-]{1,50}:[a-z0-9.-]{1,50}(:[0-9]{1,5})?\z`)
	eventId  = regexp.MustCompile(`\A\$[0-9a-f]{16}\z`)
)

// plainTexts, plainRefs and plain are a second reading of what is wrong with an event: a path and a code (0: nothing is).
func plainTexts(e Event) (string, api.Code) {
	switch {
	case !roomName.MatchString(e.Room):
		return "room_id", api.ErrName
	case !userName.MatchString(e.Sender):
		return "sender", api.ErrName
	case !utf8.ValidString(e.Type):
		return "type", api.ErrText
	case e.Type == "" || len(e.Type) > 100:
		return "type", api.ErrLong
	case !utf8.ValidString(e.Key):
		return "state_key", api.ErrText
	case len(e.Key) > 100:
		return "state_key", api.ErrLong
	case e.Key != "" && !e.State:
		return "state_key", api.ErrForm
	}
	return "", 0
}

func plainRefs(key string, l []string) (string, api.Code) {
	if len(l) > 10 {
		return key, api.ErrLong
	}
	last := ""
	for i, id := range l {
		if !eventId.MatchString(id) {
			return key + "/" + strconv.Itoa(i), api.ErrName
		}
		if id <= last {
			return key + "/" + strconv.Itoa(i), api.ErrForm
		}
		last = id
	}
	return "", 0
}

func plain(e Event) (string, api.Code) {
	if path, code := plainTexts(e); code != 0 {
		return path, code
	}
	switch {
	case value.Check(e.Content) != nil:
		path, err := "content", value.Check(e.Content)
		for f := (*api.Fault)(nil); errors.As(err, &f); err = f.Why {
			path += "/" + f.Field
		}
		return path, err.(api.Code)
	case e.Content.Kind != value.Map:
		return "content", api.ErrKind
	case e.Ts < 0 || e.Ts > 9007199254740991:
		return "origin_server_ts", api.ErrRange
	case e.Depth < 1 || e.Depth > 2000:
		return "depth", api.ErrRange
	}
	if path, code := plainRefs("prev_events", e.Prev); code != 0 {
		return path, code
	}
	if path, code := plainRefs("auth_events", e.Auth); code != 0 {
		return path, code
	}
	if value.Depth(e.Content) >= 20 {
		return "", api.ErrDeep
	}
	if s, _ := canon.Text(e.Value()); len(s) > 65536 {
		return "", api.ErrLong
	}
	return "", 0
}

// maker makes events, of few parts, so that some are made twice.
type maker struct{ *rand.Rand }

func (m maker) of(l ...string) string { return l[m.Intn(len(l))] }

func (m maker) refs() []string {
	var l []string
	for i := range 4 {
		if m.Intn(4) == 0 {
			l = append(l, ref(i))
		}
	}
	return l
}

func (m maker) event() Event {
	e := Event{
		Room: m.of("!a:x", "!b:x"), Sender: m.of("@a:x", "@b:x"), Type: m.of("t", "u"), State: m.Intn(2) == 0,
		Content: mapOf("a", number(m.Intn(2))), Ts: m.Intn(2), Depth: 1 + m.Intn(2), Prev: m.refs(), Auth: m.refs(),
	}
	if e.State {
		e.Key = m.of("", "t")
	}
	if m.Intn(3) == 0 {
		e.Content = []value.Value{mapOf(), mapOf("a", text("0")), mapOf("a", listOf()), mapOf("a", mapOf("a", number(0))), mapOf("b", value.Value{})}[m.Intn(5)]
	}
	return e
}

func TestDrawn(t *testing.T) {
	m := maker{rand.New(rand.NewSource(5))}
	all := faults()
	for range 20000 {
		e := m.event()
		for range m.Intn(4) {
			all[m.Intn(len(all))].spoil(&e)
		}
		e.Id = e.Sign().Id
		path, code := plain(e)
		err := e.Check()
		if code == 0 && (err != nil || e.Id == "") || code != 0 && (!wrapped(err, code, path) || e.Id != "") {
			t.Fatalf("P5.1: Check of %.300v: %v, not code %d in %s", e, err, code, path)
		}
	}
}

func TestThereAndBack(t *testing.T) {
	m := maker{rand.New(rand.NewSource(6))}
	var made []Event
	var values []value.Value
	ids := map[string]Event{}
	for range 3000 {
		e := m.event().Sign()
		v := e.Value()
		back, err := Read(v)
		if err != nil || !Same(back, e) {
			t.Fatalf("P5.2: %v, as a value, read, is %v, %v", e, back, err)
		}
		s, err := canon.Text(v)
		parsed, e2 := Parse([]byte(s))
		if err != nil || e2 != nil || !Same(parsed, e) || e.Id != idOf(s) {
			t.Fatalf("P5.2: %s, parsed, is %v, %v", s, parsed, e2)
		}
		if old, ok := ids[e.Id]; ok && !Same(old, e) {
			t.Fatalf("P5.2: %v and %v have one id", old, e)
		}
		ids[e.Id] = e
		made, values = append(made, e), append(values, v)
	}
	for i, a := range made[:500] {
		for j, b := range made[:500] {
			if Same(a, b) != value.Same(values[i], values[j]) {
				t.Fatalf("P5.2: %v and %v: Same %v, their values otherwise", a, b, Same(a, b))
			}
		}
	}
}
