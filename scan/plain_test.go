package scan

import (
	"encoding/json"
	"math/big"
	"regexp"
	"slices"
	"strconv"
	"strings"
	"unicode/utf8"

	"enfilade/api"
	"enfilade/value"
)

// A plain reading of the document's words, made another way than the package's: signs by patterns, then a machine that knows what may stand next.

var (
	blankPattern  = regexp.MustCompile(`^[ \t\n\r]+`)
	numberPattern = regexp.MustCompile(`^[-0-9.eE+]+`)
	rightNumber   = regexp.MustCompile(`^(0|-?[1-9][0-9]*)$`)
	wordPattern   = regexp.MustCompile(`^[a-z]+`)
	textPattern   = regexp.MustCompile(`^"([^"\\\x00-\x1f]|\\["\\/bfnrt]|\\u([0-9a-cefA-CEF][0-9a-fA-F]{3}|[dD][0-7][0-9a-fA-F]{2}|[dD][89abAB][0-9a-fA-F]{2}\\u[dD][c-fC-F][0-9a-fA-F]{2}))*"`)
)

// What may stand next.
const (
	aValue      = "value"
	valueOrEnd  = "value or ]"
	keyOrEnd    = "key or }"
	aKey        = "key"
	aColon      = ":"
	commaOrEnd  = ", or end"
	nothingMore = "nothing"
)

// machine: what is open, outermost first, with the keys that were read in each; and what may stand next.
type machine struct {
	open string
	keys [][]string
	next string
}

// plainFault is where a document has its fault, and which; 0, if it has none.
func plainFault(s string) (int, api.Code) {
	if len(s) > api.MaxBytes {
		return api.MaxBytes, api.ErrLong
	}
	m := &machine{next: aValue}
	for at := 0; at < len(s); {
		if blank := blankPattern.FindString(s[at:]); blank != "" {
			at += len(blank)
			continue
		}
		length, code := m.sign(s[at:])
		if code != 0 {
			return at, code
		}
		at += length
	}
	if m.next != nothingMore {
		return len(s), api.ErrForm
	}
	return 0, 0
}

// sign goes on with the first sign of s: how many bytes it is, or what is wrong with it.
func (m *machine) sign(s string) (int, api.Code) {
	value := m.next == aValue || m.next == valueOrEnd
	key := m.next == aKey || m.next == keyOrEnd
	switch c := s[0]; {
	case c == '"' && (value || key):
		text := textPattern.FindString(s)
		if text == "" || !utf8.ValidString(text) {
			return 0, api.ErrText
		}
		if value {
			m.ended()
			return len(text), 0
		}
		m.next = aColon
		return len(text), m.key(text)
	case (c == '[' || c == '{') && value:
		if len(m.open) == api.MaxDepth {
			return 0, api.ErrDeep
		}
		m.open += s[:1]
		m.keys = append(m.keys, nil)
		m.next = map[byte]string{'[': valueOrEnd, '{': keyOrEnd}[c]
		return 1, 0
	case c == ']' && (m.next == valueOrEnd || m.next == commaOrEnd && strings.HasSuffix(m.open, "[")), c == '}' && (m.next == keyOrEnd || m.next == commaOrEnd && strings.HasSuffix(m.open, "{")):
		m.open = m.open[:len(m.open)-1]
		m.keys = m.keys[:len(m.open)]
		m.ended()
		return 1, 0
	case c == ',' && m.next == commaOrEnd:
		m.next = map[byte]string{'[': aValue, '{': aKey}[m.open[len(m.open)-1]]
		return 1, 0
	case c == ':' && m.next == aColon:
		m.next = aValue
		return 1, 0
	case value:
		return m.alone(s)
	}
	return 0, api.ErrForm
}

// alone goes on with a word, or a number.
func (m *machine) alone(s string) (int, api.Code) {
	word, number := wordPattern.FindString(s), numberPattern.FindString(s)
	m.ended()
	switch {
	case word == "null" || word == "true" || word == "false":
		return len(word), 0
	case !rightNumber.MatchString(number):
		return 0, api.ErrForm
	}
	n, _ := new(big.Int).SetString(number, 10)
	if n.CmpAbs(big.NewInt(api.MaxInt)) > 0 {
		return 0, api.ErrNumber
	}
	return len(number), 0
}

// key lays a key's text to those that were read.
func (m *machine) key(text string) api.Code {
	var key string
	if json.Unmarshal([]byte(text), &key) != nil {
		return api.ErrText
	}
	last := len(m.keys) - 1
	if slices.Contains(m.keys[last], key) {
		return api.ErrTwice
	}
	m.keys[last] = append(m.keys[last], key)
	return 0
}

// ended: a value has come to its end.
func (m *machine) ended() {
	m.next = commaOrEnd
	if m.open == "" {
		m.next = nothingMore
	}
}

// plainValue is the value of a document without a fault, as the library reads it.
func plainValue(s string) value.Value {
	d := json.NewDecoder(strings.NewReader(s))
	d.UseNumber()
	var x any
	if err := d.Decode(&x); err != nil {
		return value.Texts("the library can't read it: " + err.Error())
	}
	return plain(x)
}

// plain is what the library read, as a value.
func plain(x any) value.Value {
	switch x := x.(type) {
	case bool:
		return yes(x)
	case json.Number:
		n, _ := strconv.Atoi(string(x))
		return num(n)
	case string:
		return str(x)
	case []any:
		v := list()
		for _, part := range x {
			v.List = append(v.List, plain(part))
		}
		return v
	case map[string]any:
		v := mapOf()
		for key, part := range x {
			v.Map = append(v.Map, value.Member{Key: key, Value: plain(part)})
		}
		slices.SortFunc(v.Map, func(a, b value.Member) int { return strings.Compare(a.Key, b.Key) })
		return v
	}
	return value.Value{}
}
