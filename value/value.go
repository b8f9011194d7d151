// Package value is layer 1: values: what events and messages are made of: see shared/doc/01-value.md.
package value

import (
	"slices"
	"strconv"
	"strings"
	"unicode/utf8"

	"enfilade/api"
)

// Kind: what a value is.
type Kind int

// The kinds.
const (
	Null Kind = iota
	Bool
	Int
	Text
	List
	Map
)

// Member: a key, and a value.
type Member struct {
	Key   string
	Value Value
}

// Value: a kind, and what goes with it.
type Value struct {
	Kind Kind
	Yes  bool
	Int  int
	Text string
	List []Value
	Map  []Member
}

// Check: what is wrong with it.
func Check(v Value) error { return check(v, 0) }

// check: what is wrong with v, that stands in so many lists and maps.
// It may call itself: it goes no deeper than MaxDepth.
func check(v Value, about int) error {
	switch v.Kind {
	case Null, Bool:
		return nil
	case Int:
		if v.Int < -api.MaxInt || v.Int > api.MaxInt {
			return api.ErrNumber
		}
		return nil
	case Text:
		if !utf8.ValidString(v.Text) {
			return api.ErrText
		}
		return nil
	case List:
		return checkList(v.List, about+1)
	case Map:
		return checkMap(v.Map, about+1)
	}
	return api.ErrKind
}

// checkList: what is wrong with the parts of a list of that depth, or with its depth.
func checkList(l []Value, depth int) error {
	if depth > api.MaxDepth {
		return api.ErrDeep
	}
	for i, part := range l {
		if err := check(part, depth); err != nil {
			return within(strconv.Itoa(i), err)
		}
	}
	return nil
}

// checkMap: what is wrong with the members of a map of that depth, or with its depth.
func checkMap(l []Member, depth int) error {
	if depth > api.MaxDepth {
		return api.ErrDeep
	}
	for i, m := range l {
		err := checkKey(m.Key, l[:i])
		if err == nil {
			err = check(m.Value, depth)
		}
		if err != nil {
			return within(m.Key, err)
		}
	}
	return nil
}

// checkKey: what is wrong with a key behind these members.
func checkKey(key string, ahead []Member) error {
	if !utf8.ValidString(key) {
		return api.ErrText
	}
	// The first key has none ahead, not even the empty one.
	if len(ahead) == 0 {
		return nil
	}
	last := ahead[len(ahead)-1].Key
	if key == last {
		return api.ErrTwice
	}
	if key < last {
		return api.ErrForm
	}
	return nil
}

// within: an error, wrapped by the part it is in.
func within(field string, err error) error {
	return &api.Fault{At: -1, Field: field, Why: err}
}

// pair: two values that are held against each other.
type pair struct{ a, b Value }

// Same: are two the same?
func Same(a, b Value) bool {
	// Lists and maps wait here, instead of Same calling itself: a value that isn't right may be deeper than the stack of calls can grow.
	var open []pair
	part := func(x, y Value) bool {
		if !sameAlone(x, y) {
			return false
		}
		if x.Kind == List || x.Kind == Map {
			open = append(open, pair{x, y})
		}
		return true
	}
	member := func(x, y Member) bool { return x.Key == y.Key && part(x.Value, y.Value) }
	same := part(a, b)
	for same && len(open) > 0 {
		p := open[len(open)-1]
		open = open[:len(open)-1]
		if p.a.Kind == List {
			same = slices.EqualFunc(p.a.List, p.b.List, part)
		} else {
			same = slices.EqualFunc(p.a.Map, p.b.Map, member)
		}
	}
	return same
}

// sameAlone: are two the same, whatever parts they have?
func sameAlone(a, b Value) bool {
	if a.Kind != b.Kind {
		return false
	}
	switch a.Kind {
	case Bool:
		return a.Yes == b.Yes
	case Int:
		return a.Int == b.Int
	case Text:
		return a.Text == b.Text
	}
	return true
}

// Depth: how deep it is.
func Depth(v Value) int {
	deepest := 0
	each(v, func(part Value, about int) {
		if part.Kind == List || part.Kind == Map {
			deepest = max(deepest, about+1)
		}
	})
	return deepest
}

// Size: how many values it is.
func Size(v Value) int {
	n := 0
	each(v, func(Value, int) { n++ })
	return n
}

// nested: a value, and how many lists and maps it stands in.
type nested struct {
	value Value
	about int
}

// each shows v and all within it, in no order that is promised, each with how many lists and maps it stands in.
func each(v Value, look func(part Value, about int)) {
	// A list of what is to be shown, for the same reason as in Same.
	open := []nested{{v, 0}}
	for len(open) > 0 {
		n := open[len(open)-1]
		open = open[:len(open)-1]
		look(n.value, n.about)
		switch n.value.Kind {
		case List:
			for _, part := range n.value.List {
				open = append(open, nested{part, n.about + 1})
			}
		case Map:
			for _, m := range n.value.Map {
				open = append(open, nested{m.Value, n.about + 1})
			}
		}
	}
}

// Get: a map's value of a key.
func Get(v Value, key string) (Value, bool) {
	if v.Kind != Map {
		return Value{}, false
	}
	// One by one: the keys of a map that isn't right needn't rise.
	for _, m := range v.Map {
		if m.Key == key {
			return Copy(m.Value), true
		}
	}
	return Value{}, false
}

// Members: a map.
func Members(l ...Member) (Value, error) {
	v := Copy(Value{Kind: Map, Map: l})
	slices.SortFunc(v.Map, func(a, b Member) int { return strings.Compare(a.Key, b.Key) })
	for i, m := range v.Map {
		if i > 0 && m.Key == v.Map[i-1].Key {
			return Value{}, within(m.Key, api.ErrTwice)
		}
	}
	return v, nil
}

// Texts: a list of texts.
func Texts(l ...string) Value {
	v := Value{Kind: List}
	for _, s := range l {
		v.List = append(v.List, Value{Kind: Text, Text: s})
	}
	return v
}

// Copy: the same, in new memory.
func Copy(v Value) Value {
	top := copyAlone(v)
	// Copies whose parts aren't copied yet wait here, for the same reason as in Same.
	open := []Value{top}
	for len(open) > 0 {
		c := open[len(open)-1]
		open = open[:len(open)-1]
		for i, part := range c.List {
			c.List[i] = copyAlone(part)
			open = append(open, c.List[i])
		}
		for i, m := range c.Map {
			c.Map[i].Value = copyAlone(m.Value)
			open = append(open, c.Map[i].Value)
		}
	}
	return top
}

// copyAlone: what counts of v, in new memory, but for what its parts hold.
func copyAlone(v Value) Value {
	switch v.Kind {
	case Bool:
		return Value{Kind: Bool, Yes: v.Yes}
	case Int:
		return Value{Kind: Int, Int: v.Int}
	case Text:
		return Value{Kind: Text, Text: v.Text}
	case List:
		return Value{Kind: List, List: append([]Value(nil), v.List...)}
	case Map:
		return Value{Kind: Map, Map: append([]Member(nil), v.Map...)}
	}
	return Value{Kind: v.Kind}
}
