package ident

import (
	"errors"
	"math/rand"
	"regexp"
	"strings"
	"testing"

	"enfilade/api"
)

// kinds are all kinds, and some that are none.
var kinds = []Kind{Room, User, Alias, Event, Server, 0, 6, 7, -1, 1 << 62, -1 << 63}

// words are the kinds' words, as the document lists them.
var words = map[Kind]string{Room: "room", User: "user", Alias: "alias", Event: "event", Server: "server"}

// patterns are a second reading of the document's words.
var patterns = map[Kind]*regexp.Regexp{
	Room:   regexp.MustCompile(`\A!([A-Za-z0-9_.-]{1,50}):([a-z0-9.-]{1,50}(?::[0-9]{1,5})?)\z`),
	User:   regexp.MustCompile(`\A@([a-z0-9._=/-]{1,50}):([a-z0-9.-]{1,50}(?::[0-9]{1,5})?)\z`),
	Alias:  regexp.MustCompile(`\A#([a-z0-9._=/-]{1,50}):([a-z0-9.-]{1,50}(?::[0-9]{1,5})?)\z`),
	Event:  regexp.MustCompile(`\A\$[0-9a-f]{16}\z`),
	Server: regexp.MustCompile(`\A[a-z0-9.-]{1,50}(?::[0-9]{1,5})?\z`),
}

// long is a byte so many times.
func long(c string, times int) string { return strings.Repeat(c, times) }

// look holds all calls of a text against its one kind (0: none), its part and its server.
func look(t *testing.T, s string, kind Kind, part, server string) {
	t.Helper()
	for _, k := range kinds {
		is := kind != 0 && k == kind
		if Is(k, s) != is {
			t.Fatalf("P4.1: Is(%d, %q): %v", k, s, !is)
		}
		err := Check(k, s)
		if is && err != nil {
			t.Fatalf("P4.1: Check(%d, %q): %v", k, s, err)
		}
		if is {
			continue
		}
		if f, ok := err.(*api.Fault); !ok || *f != (api.Fault{At: 0, Field: words[k], Why: api.ErrName}) {
			t.Fatalf("P4.1: Check(%d, %q): %v", k, s, err)
		}
	}
	var wantErr error
	want := kind
	if kind != Room && kind != User && kind != Alias {
		wantErr, want, part, server = api.ErrName, 0, "", ""
	}
	if k, p, h, err := Split(s); k != want || p != part || h != server || err != wantErr {
		t.Fatalf("P4.1: Split(%q): %d, %q, %q, %v", s, k, p, h, err)
	}
	if h := Of(s); h != server {
		t.Fatalf("P4.1: Of(%q): %q, not %q", s, h, server)
	}
}

func TestKinds(t *testing.T) {
	if Room != 1 || User != 2 || Alias != 3 || Event != 4 || Server != 5 {
		t.Error("P4.1: the kinds have other numbers")
	}
}

func TestNames(t *testing.T) {
	for _, x := range []struct {
		s            string
		kind         Kind
		part, server string
	}{
		{"@ann:x.org", User, "ann", "x.org"}, {"!a:b:80", Room, "a", "b:80"}, {"#w:x:1", Alias, "w", "x:1"},
		{"!A_z-9.:b", Room, "A_z-9.", "b"}, {"@a=b/c._-:x", User, "a=b/c._-", "x"}, {"#a=b/c._-:x", Alias, "a=b/c._-", "x"},
		{"!0:0:0", Room, "0", "0:0"}, {"@-:-", User, "-", "-"}, {"#.:.", Alias, ".", "."}, {"@/:x", User, "/", "x"}, {"@=:x", User, "=", "x"}, {"!_:x", Room, "_", "x"},
		{"!a:b:00000", Room, "a", "b:00000"}, {"!a:b:99999", Room, "a", "b:99999"}, {"!a:1:2", Room, "a", "1:2"},
		{"!" + long("Z", 50) + ":" + long("z", 50) + ":12345", Room, long("Z", 50), long("z", 50) + ":12345"},
		{"@" + long("z", 50) + ":" + long("9", 50), User, long("z", 50), long("9", 50)},
		{"#" + long("/", 50) + ":" + long("-", 50) + ":1", Alias, long("/", 50), long("-", 50) + ":1"},
	} {
		look(t, x.s, x.kind, x.part, x.server)
	}
	for _, s := range []string{"$0123456789abcdef", "$0000000000000000", "$ffffffffffffffff", "$9999999999999999"} {
		look(t, s, Event, "", "")
	}
	for _, s := range []string{"x", "x.org", "x:1", "x:12345", "-.", ".", "-", "0", "a:0", "1:1", "0123456789abcdef", long("z", 50), long("z", 50) + ":99999"} {
		look(t, s, Server, "", "")
	}
}

func TestNoNames(t *testing.T) {
	for _, s := range []string{
		"", ":", "::", "!", "@", "#", "$", "!:", "@:", "#:", "!:x", "@:x", "#:x", "!a", "@a", "#a", "!a:", "@a:", "#a:", ":x", "a:x", "%a:b", "$a:b", "&a:b", "é:b", " !a:b", "!a:b ", "!a:b\n", "\x00!a:b", "!!a:b", "@@a:b", "!@a:b", "@!a:b",
		"!a=b:x", "!a/b:x", "!a b:x", "!é:x", "!a\x00:x", "@A:x", "@Z:x", "@aB:x", "@a b:x", "@é:x", "@a+b:x", "@a\xff:x", "#A:x", "#é:x", "#a~:x", "#a*:x", "@a@b:x",
		"!a:X", "!a:x_y", "!a:x/y", "!a:x=y", "@a:é", "@a:x y", "@a:x.Org", "#a:\x7f", "!a::", "!a::1", "!a:b:", "!a:b:1:", "!a:b:1:2", "!a:b::1", "!a:b:123456", "!a:b:1a", "!a:b:a", "!a:b:-1", "!a:b:+1", "!a:b: 1", "!a:b:1 ", "!a:b:1.2", "!a:b:١",
		"x:", "x:123456", "x:a", "x:1a", "x:-1", "x:1:", "x:1:2", "x::1", ":1", "X", "x.Org", "x_y", "x y", "a/b", "a=b", "é", "\xff", "[::1]", "x\n", long("z", 51), long("z", 51) + ":1", long("z", 50) + ":123456",
		"!" + long("a", 51) + ":b", "@" + long("a", 51) + ":b", "#" + long("a", 51) + ":b", "!a:" + long("b", 51), "@a:" + long("b", 51) + ":1", "!" + long("é", 25) + ":b",
		"$0123456789abcdeF", "$0123456789abcde", "$0123456789abcdef0", "$0123456789abcdeg", "$ABCDEF0123456789", "!0123456789abcdef", "$$123456789abcdef", "$0123456789abcde:", "$0123456789abcdef:x", " $0123456789abcdef", "$0123456789abcdef ", "$0123456789abcd\u00e9",
		"!" + long("a", 1<<20) + ":b", long("b", 1<<20), "!a:b:" + long("1", 1<<20), "$" + long("0", 1<<20), long(":", 1<<20),
	} {
		look(t, s, 0, "", "")
	}
}

// bySecond is a text's kind, part and server by the patterns; 0, if it fits none.
func bySecond(s string) (Kind, string, string) {
	for k, p := range patterns {
		if m := p.FindStringSubmatch(s); m != nil && len(m) == 3 {
			return k, m[1], m[2]
		} else if m != nil {
			return k, "", ""
		}
	}
	return 0, "", ""
}

func TestEveryByte(t *testing.T) {
	// Each byte by itself, at each place of a name of each kind, laid instead of another one and between two.
	for _, s := range []string{"!aB:c.d:80", "@ab:c.d:80", "#ab:c:8", "$0123456789abcdef", "x.org:80"} {
		for i := range len(s) + 1 {
			for c := range 256 {
				put := string([]byte{byte(c)})
				between := s[:i] + put + s[i:]
				kind, part, server := bySecond(between)
				look(t, between, kind, part, server)
				if i < len(s) {
					instead := s[:i] + put + s[i+1:]
					kind, part, server = bySecond(instead)
					look(t, instead, kind, part, server)
				}
			}
		}
	}
}

func TestEveryLength(t *testing.T) {
	for n := range 53 {
		for _, s := range []string{"!" + long("a", n) + ":b", "@" + long("a", n) + ":b", "#" + long("a", n) + ":b", "!a:" + long("b", n), "!a:" + long("b", n) + ":1", "!a:b:" + long("1", n), "$" + long("a", n), long("b", n), long("b", n) + ":1", "b:" + long("1", n)} {
			kind, part, server := bySecond(s)
			look(t, s, kind, part, server)
		}
	}
}

func TestDrawn(t *testing.T) {
	draw := rand.New(rand.NewSource(4))
	parts := []string{"!", "@", "#", "$", ":", ":", "a", "b.c", "Z", "0", "12345", "_", "=", "/", "-", "0123456789abcdef", "é", " ", long("a", 25)}
	seen := map[Kind]int{}
	for range 100000 {
		s := parts[draw.Intn(8)]
		for range draw.Intn(6) {
			s += parts[draw.Intn(len(parts))]
		}
		kind, part, server := bySecond(s)
		look(t, s, kind, part, server)
		seen[kind]++
	}
	for _, k := range []Kind{0, Room, User, Alias, Event, Server} {
		if seen[k] < 50 {
			t.Errorf("P4.1: of the kind %d only %d texts were looked at", k, seen[k])
		}
	}
}

func TestFault(t *testing.T) {
	for k, want := range map[Kind]string{Room: "0: room: code 7", User: "0: user: code 7", Alias: "0: alias: code 7", Event: "0: event: code 7", Server: "0: server: code 7", 0: "0: code 7", 6: "0: code 7", -1: "0: code 7"} {
		err := Check(k, "%")
		if err == nil || err.Error() != want || !errors.Is(err, api.ErrName) {
			t.Errorf("P4.1: Check(%d): %v, not %s", k, err, want)
		}
	}
	a, b := Check(Room, "").(*api.Fault), Check(Room, "").(*api.Fault)
	if a == b {
		t.Error("P7: R6: two answers are one Fault")
	}
}
