package power

import (
	"slices"
	"strings"

	"enfilade/api"
)

// Change: why a user may not make a change.
func Change(from, to Levels, by string) error {
	m := maker{by, from.User(by)}
	after := to.parts()
	for i, was := range from.parts() {
		if err := m.change(was, after[i]); err != nil {
			return within(was.key, err)
		}
	}
	return nil
}

// maker: who makes a change, and of which level it is.
type maker struct {
	name  string
	level int
}

// told: what a list tells of a name, if it does.
type told struct {
	level int
	ok    bool
}

// change: why it may not change a part of some levels to the same part of others.
func (m maker) change(was, is part) error {
	if was.number == nil {
		return m.changeNames(*was.names, *is.names, was.key == keyUsers)
	}
	if m.may(told{*was.number, true}, told{*is.number, true}) {
		return nil
	}
	return api.ErrDenied
}

// changeNames: why it may not change a list, of users or not, to another one: the least name of which it may not.
func (m maker) changeNames(from, to []Named, users bool) error {
	// An event's content may be one that isn't right: its lists needn't rise.
	from, to = rising(from), rising(to)
	for _, n := range rising(append(slices.Clone(from), to...)) {
		was, is := find(from, n.Name), find(to, n.Name)
		if !m.may(was, is) || users && !m.mayUser(n.Name, was, is) {
			return within(n.Name, api.ErrDenied)
		}
	}
	return nil
}

// may: may it change what was told to what is?
func (m maker) may(was, is told) bool {
	if was == is {
		return true
	}
	return (!was.ok || was.level <= m.level) && (!is.ok || is.level <= m.level)
}

// mayUser: may it change what was told of a user, whatever is now?
func (m maker) mayUser(name string, was, is told) bool {
	return was == is || name == m.name || !was.ok || was.level < m.level
}

// rising: a new list by names rising, each the first one of its name.
func rising(l []Named) []Named {
	l = slices.Clone(l)
	slices.SortStableFunc(l, func(a, b Named) int { return strings.Compare(a.Name, b.Name) })
	return slices.CompactFunc(l, func(a, b Named) bool { return a.Name == b.Name })
}

// find: what a list that rises tells of a name.
func find(l []Named, name string) told {
	i, ok := slices.BinarySearchFunc(l, name, func(n Named, s string) int { return strings.Compare(n.Name, s) })
	if !ok {
		return told{}
	}
	return told{l[i].Level, true}
}
