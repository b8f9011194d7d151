package power

import (
	"errors"
	"math"
	"math/rand"
	"reflect"
	"slices"
	"strconv"
	"testing"

	"enfilade/api"
)

// touched is a number that a change may touch; of what isn't told nil.
type touched struct {
	key, name string
	was, is   *int
}

// firsts is a list as a map: of each name the first number.
func firsts(l []Named) map[string]*int {
	told := map[string]*int{}
	for i, n := range l {
		if told[n.Name] == nil {
			told[n.Name] = &l[i].Level
		}
	}
	return told
}

// ofNames is what two lists tell, the least name first.
func ofNames(key string, from, to []Named) []touched {
	was, is := firsts(from), firsts(to)
	names := map[string]bool{}
	for name := range was {
		names[name] = true
	}
	for name := range is {
		names[name] = true
	}
	var l []touched
	for name := range names {
		l = append(l, touched{key, name, was[name], is[name]})
	}
	slices.SortFunc(l, func(a, b touched) int {
		if a.name < b.name {
			return -1
		}
		return 1
	})
	return l
}

// secondChange is a second reading of the document's words: what Change must tell (no fields: nothing).
func secondChange(from, to Levels, by string) []string {
	p := from.UsersDefault
	if level := firsts(from.Users)[by]; level != nil {
		p = *level
	}
	all := []touched{{"ban", "", &from.Ban, &to.Ban}}
	all = append(all, ofNames("events", from.Events, to.Events)...)
	all = append(all, touched{"events_default", "", &from.EventsDefault, &to.EventsDefault}, touched{"invite", "", &from.Invite, &to.Invite}, touched{"kick", "", &from.Kick, &to.Kick}, touched{"redact", "", &from.Redact, &to.Redact}, touched{"state_default", "", &from.StateDefault, &to.StateDefault})
	all = append(all, ofNames("users", from.Users, to.Users)...)
	all = append(all, touched{"users_default", "", &from.UsersDefault, &to.UsersDefault})
	for _, x := range all {
		if x.was != nil && x.is != nil && *x.was == *x.is {
			continue
		}
		denied := x.was != nil && *x.was > p || x.is != nil && *x.is > p
		if x.key == "users" && x.name != by && x.was != nil && *x.was >= p {
			denied = true
		}
		if denied && isList(x.key) {
			return []string{x.key, x.name}
		}
		if denied {
			return []string{x.key}
		}
	}
	return nil
}

// changes holds Change against fields (none: it may be made).
func changes(t *testing.T, from, to Levels, by string, fields ...string) {
	t.Helper()
	err := Change(from, to, by)
	if len(fields) == 0 && err != nil || len(fields) > 0 && (!wrapped(err, api.ErrDenied, fields...) || !errors.Is(err, api.ErrDenied)) {
		t.Fatalf("P9.1: Change from %.300v to %.300v by %s: %v, not in %q", from, to, by, err, fields)
	}
}

// numbers are the seven, by their keys.
func numbers(l *Levels) map[string]*int {
	return map[string]*int{"ban": &l.Ban, "events_default": &l.EventsDefault, "invite": &l.Invite, "kick": &l.Kick, "redact": &l.Redact, "state_default": &l.StateDefault, "users_default": &l.UsersDefault}
}

func TestChangeNumbers(t *testing.T) {
	edges := []int{math.MinInt, -api.MaxInt, -1, 0, 1, 49, 50, 51, api.MaxInt, math.MaxInt}
	for _, p := range edges {
		for _, was := range edges {
			for _, is := range edges {
				for key := range numbers(&Levels{}) {
					from := Levels{Users: []Named{{"@ann:x", p}}}
					to := from
					*numbers(&from)[key], *numbers(&to)[key] = was, is
					if was == is || was <= p && is <= p {
						changes(t, from, to, "@ann:x")
					} else {
						changes(t, from, to, "@ann:x", key)
					}
				}
			}
		}
	}
}

// alone is a list of one name, or of none.
func alone(name string, level *int) []Named {
	if level == nil {
		return nil
	}
	return []Named{{name, *level}}
}

func TestChangeNames(t *testing.T) {
	p := 5
	levels := []*int{nil}
	for _, n := range []int{-1, 0, 4, 5, 6, 7} {
		levels = append(levels, &n)
	}
	ann := Named{"@ann:x", p}
	for _, was := range levels {
		for _, is := range levels {
			still := was == is
			least := !still && (was == nil || *was <= p) && (is == nil || *is <= p)
			from, to := Levels{Users: []Named{ann}, Events: alone("m", was)}, Levels{Users: []Named{ann}, Events: alone("m", is)}
			if still || least {
				changes(t, from, to, "@ann:x")
			} else {
				changes(t, from, to, "@ann:x", "events", "m")
			}
			from, to = Levels{Users: append([]Named{ann}, alone("@bob:x", was)...)}, Levels{Users: append([]Named{ann}, alone("@bob:x", is)...)}
			if still || least && (was == nil || *was < p) {
				changes(t, from, to, "@ann:x")
			} else {
				changes(t, from, to, "@ann:x", "users", "@bob:x")
			}
			// Whose level is only UsersDefault may come to be told, at most of that level.
			from, to = Levels{UsersDefault: p, Users: alone("@bob:x", was)}, Levels{UsersDefault: p, Users: alone("@bob:x", is)}
			changes(t, from, to, "@bob:x", secondChange(from, to, "@bob:x")...)
		}
	}
	// One's own number may go down, and go, but not up.
	from := Levels{Users: []Named{{"@ann:x", 50}}, UsersDefault: 60}
	for _, is := range []int{-100, 0, 49, 50} {
		changes(t, from, Levels{Users: []Named{{"@ann:x", is}}, UsersDefault: 60}, "@ann:x")
	}
	changes(t, from, Levels{UsersDefault: 60}, "@ann:x")
	changes(t, from, Levels{Users: []Named{{"@ann:x", 51}}, UsersDefault: 60}, "@ann:x", "users", "@ann:x")
	changes(t, Levels{UsersDefault: 50}, Levels{UsersDefault: 50, Users: []Named{{"@ann:x", 51}}}, "@ann:x", "users", "@ann:x")
	// A level is who makes it by the first levels, not by the others.
	changes(t, Levels{}, Levels{Ban: 1, Users: []Named{{"@ann:x", 100}}}, "@ann:x", "ban")
	changes(t, Levels{Users: []Named{{"@ann:x", 100}}}, Levels{Ban: 1}, "@ann:x")
	// A type that is a user's name is no user.
	changes(t, Levels{UsersDefault: 5, Events: []Named{{"@bob:x", 5}}}, Levels{UsersDefault: 5}, "@ann:x")
}

// spoilt is levels with the number of a key, or of a name in its list, too great for everybody.
func spoilt(l Levels, key, name string) Levels {
	l.Events, l.Users = slices.Clone(l.Events), slices.Clone(l.Users)
	switch key {
	case "events":
		l.Events = rising(append([]Named{{name, 99}}, l.Events...))
	case "users":
		l.Users = rising(append([]Named{{name, 99}}, l.Users...))
	default:
		*numbers(&l)[key] = 99
	}
	return l
}

func TestChangeOrder(t *testing.T) {
	base := Levels{Events: []Named{{"b", 3}}, Users: []Named{{"@ann:x", 50}, {"@m:x", 3}}}
	for i, a := range order {
		for _, b := range order[i+1:] {
			fields := []string{a}
			if isList(a) {
				fields = append(fields, "@z:x")
			}
			to := spoilt(spoilt(base, b, "@a:x"), a, "@z:x")
			changes(t, base, to, "@ann:x", fields...)
		}
	}
	// The least name, byte by byte, in whichever of both lists it is told.
	names := []string{"", "@b:x", "B", "a", "aa", "b", "é", "\uffff", "\U00010000", "\xff"}
	for i, a := range names {
		for _, b := range names[i+1:] {
			to := spoilt(spoilt(base, "events", b), "events", a)
			changes(t, base, to, "@ann:x", "events", a)
			changes(t, to, base, "@ann:x", "events", a)
			changes(t, spoilt(base, "events", b), spoilt(base, "events", a), "@ann:x", "events", a)
			changes(t, spoilt(base, "events", a), spoilt(base, "events", b), "@ann:x", "events", a)
			to = spoilt(spoilt(base, "users", b), "users", a)
			changes(t, base, to, "@ann:x", "users", a)
			changes(t, to, base, "@ann:x", "users", a)
		}
	}
}

// few is a list of some of the names, rising, or not.
func few(draw *rand.Rand, names []string, rise bool) []Named {
	var l []Named
	for _, name := range names {
		if draw.Intn(2) == 0 {
			l = append(l, Named{name, draw.Intn(4) - 1})
		}
	}
	if !rise {
		for range draw.Intn(3) {
			l = append(l, Named{names[draw.Intn(len(names))], draw.Intn(4) - 1})
		}
		draw.Shuffle(len(l), func(i, j int) { l[i], l[j] = l[j], l[i] })
	}
	return l
}

// users and types are those of drawn levels.
var (
	users = []string{"@ann:x", "@bob:x", "@cat:x", "@dan:x"}
	types = []string{"a", "b", "m.room.name"}
)

// drawn is levels, and others that differ from them in some numbers.
func drawn(draw *rand.Rand, rise bool) (Levels, Levels) {
	from := Levels{Events: few(draw, types, rise), Users: few(draw, users, rise)}
	for _, key := range order {
		if n := numbers(&from)[key]; n != nil {
			*n = draw.Intn(4) - 1
		}
	}
	to := from
	to.Events, to.Users = slices.Clone(from.Events), slices.Clone(from.Users)
	for range draw.Intn(3) {
		switch key := order[draw.Intn(len(order))]; key {
		case "events":
			to.Events = few(draw, types, rise)
		case "users":
			to.Users = few(draw, users, rise)
		default:
			*numbers(&to)[key] = draw.Intn(4) - 1
		}
	}
	return from, to
}

// holds looks whether a change that may be made is one of those that P9.2 allows.
func holds(t *testing.T, from, to Levels, by string) {
	t.Helper()
	p := from.User(by)
	if from.UsersDefault > p {
		return
	}
	for _, u := range append([]string{"@eve:x"}, users...) {
		was, is := from.User(u), to.User(u)
		if is > p && was <= p {
			t.Fatalf("P9.2: from %v to %v by %s: %s comes above", from, to, by, u)
		}
		// Who has UsersDefault, and nothing of its own, may have another one by a change of that number.
		if told := firsts(from.Users)[u] != nil || from.UsersDefault < p; told && u != by && was >= p && is != was {
			t.Fatalf("P9.2: from %v to %v by %s: %s is changed", from, to, by, u)
		}
	}
}

func TestChangeDrawn(t *testing.T) {
	draw := rand.New(rand.NewSource(9))
	made, denied := 0, 0
	for i := range 60000 {
		from, to := drawn(draw, i%3 > 0)
		for _, by := range []string{"@ann:x", "@cat:x", "@eve:x"} {
			want := secondChange(from, to, by)
			changes(t, from, to, by, want...)
			if err := Change(from, from, by); err != nil {
				t.Fatalf("P9.2: Change from %v to itself by %s: %v", from, by, err)
			}
			if want != nil {
				denied++
				continue
			}
			made++
			holds(t, from, to, by)
		}
	}
	if made < 20000 || denied < 20000 {
		t.Errorf("P9.1: only %d changes that may be made, and %d that may not, were looked at", made, denied)
	}
}

// Each change of two users' numbers, and of UsersDefault, by each of them, and by another one.
func TestChangeEach(t *testing.T) {
	var all []Levels
	for code := range 4 * 4 * 3 {
		l := Levels{UsersDefault: code % 3}
		if a := code / 3 % 4; a < 3 {
			l.Users = append(l.Users, Named{"@ann:x", a})
		}
		if b := code / 12; b < 3 {
			l.Users = append(l.Users, Named{"@bob:x", b})
		}
		all = append(all, l)
	}
	for _, from := range all {
		for _, to := range all {
			for _, by := range []string{"@ann:x", "@bob:x", "@cat:x", ""} {
				want := secondChange(from, to, by)
				changes(t, from, to, by, want...)
				if want == nil {
					holds(t, from, to, by)
				}
			}
		}
	}
}

// Of contents that aren't right lists may be long, and have many of one name: the first of each counts.
func TestChangeTwice(t *testing.T) {
	draw := rand.New(rand.NewSource(90))
	for range 300 {
		from := Levels{Users: []Named{{"@ann:x", 50}}}
		for i := range 200 {
			from.Events = append(from.Events, Named{"m" + strconv.Itoa(draw.Intn(20)), i})
			from.Users = append(from.Users, Named{users[draw.Intn(len(users))], i})
		}
		to := from
		to.Events, to.Users = slices.Clone(from.Events), slices.Clone(from.Users)
		at := draw.Intn(200)
		to.Events[at].Level = draw.Intn(100)
		to.Users[at].Level = draw.Intn(100)
		changes(t, from, to, "@ann:x", secondChange(from, to, "@ann:x")...)
	}
}

func TestChangeMemory(t *testing.T) {
	list := func(l ...Named) []Named { return append(make([]Named, 0, 9), l...) }
	pair := func() (Levels, Levels) {
		return Levels{Users: list(Named{"@b:x", 1}, Named{"@a:x", 50}, Named{"@b:x", 3}), Events: list(Named{"z", 1}, Named{"a", 2})},
			Levels{Users: list(Named{"@c:x", 1}, Named{"@a:x", 50}), Events: list(Named{"z", 1}, Named{"y", 2}, Named{"z", 3})}
	}
	from, to := pair()
	wantFrom, wantTo := pair()
	changes(t, from, to, "@a:x")
	for _, x := range [][2][]Named{{from.Users, wantFrom.Users}, {from.Events, wantFrom.Events}, {to.Users, wantTo.Users}, {to.Events, wantTo.Events}} {
		if !reflect.DeepEqual(x[0][:9], x[1][:9]) {
			t.Errorf("P7: R6: Change changed a list, or its spare room: %v, not %v", x[0][:9], x[1][:9])
		}
	}
	if a, b := Change(Levels{}, Levels{Ban: 1}, "").(*api.Fault), Change(Levels{}, Levels{Ban: 1}, "").(*api.Fault); a == b {
		t.Error("P7: R6: two answers are one Fault")
	}
}

// P6: long lists come to an end soon.
func TestChangeLong(t *testing.T) {
	var l Levels
	for i := range 100000 {
		l.Events = append(l.Events, Named{strconv.Itoa(99999 - i), 0})
		l.Users = append(l.Users, Named{"@" + strconv.Itoa(99999-i) + ":x", -1})
	}
	changes(t, l, l, "@ann:x")
	changes(t, l, Levels{}, "@ann:x")
	changes(t, Levels{}, l, "@ann:x")
	changes(t, l, Levels{Users: []Named{{"@99999:x", 1}}}, "@ann:x", "users", "@99999:x")
}
