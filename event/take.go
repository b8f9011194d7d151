package event

import (
	"strconv"

	"enfilade/api"
	"enfilade/value"
)

// taker takes what stands for keys out of a map, and keeps the first error.
type taker struct {
	from value.Value
	err  error
}

// take: the event that a map's keys tell, whether it is right or not, without an id.
func take(v value.Value) (Event, error) {
	t := taker{from: v}
	var e Event
	e.Room = t.kind(keyRoom, value.Text).Text
	e.Sender = t.kind(keySender, value.Text).Text
	e.Type = t.kind(keyType, value.Text).Text
	// It is this key that makes a state event: it alone may be missing.
	if _, e.State = value.Get(v, keyState); e.State {
		e.Key = t.kind(keyState, value.Text).Text
	}
	e.Content = t.kind(keyContent, value.Map)
	e.Ts = t.kind(keyTs, value.Int).Int
	e.Depth = t.kind(keyDepth, value.Int).Int
	e.Prev = t.texts(keyPrev)
	e.Auth = t.texts(keyAuth)
	return e, t.err
}

// kind: what stands for a key, and is of that kind.
func (t *taker) kind(key string, k value.Kind) value.Value {
	v, ok := value.Get(t.from, key)
	if !ok || v.Kind != k {
		t.fail(within(key, api.ErrKind))
		return value.Value{}
	}
	return v
}

// texts: those in the list that stands for a key.
func (t *taker) texts(key string) []string {
	var l []string
	for i, part := range t.kind(key, value.List).List {
		if part.Kind != value.Text {
			t.fail(within(key, within(strconv.Itoa(i), api.ErrKind)))
			return nil
		}
		l = append(l, part.Text)
	}
	return l
}

// fail keeps an error, unless there was one ahead of it.
func (t *taker) fail(err error) {
	if t.err == nil {
		t.err = err
	}
}
