package script

import (
	"strconv"
	"strings"

	"tmplpipe/api"
	"tmplpipe/value"
)

// Put formats a value as a literal.
func Put(v api.Value) (string, api.Errno) {
	if err := value.Check(v); err != api.OK {
		return "", err
	}
	return string(appendValue(nil, v)), api.OK
}

// appendValue appends the literal of a valid value.
func appendValue(b []byte, v api.Value) []byte {
	switch v.Kind {
	case api.Str:
		return appendString(b, v.S)
	case api.Int:
		return strconv.AppendInt(b, v.N, 10)
	case api.Bool:
		return strconv.AppendBool(b, v.B)
	case api.List:
		return appendElements(b, '[', v.Items, appendValue, ']')
	}
	return appendElements(b, '{', v.Fields, appendField, '}')
}

func appendString(b []byte, s string) []byte {
	b = append(b, '"')
	for i := range len(s) {
		b = appendByte(b, s[i])
	}
	return append(b, '"')
}

// appendByte appends a byte of a string.
func appendByte(b []byte, c byte) []byte {
	const digits = "0123456789abcdef"
	switch {
	case c == '"' || c == '\\':
		return append(b, '\\', c)
	case c == '\n':
		return append(b, '\\', 'n')
	case c < 32 || c > 126:
		return append(b, '\\', 'x', digits[c>>4], digits[c&15])
	}
	return append(b, c)
}

func appendElements[T any](b []byte, opening byte, elements []T, appendElement func([]byte, T) []byte, closing byte) []byte {
	b = append(b, opening)
	for i, x := range elements {
		if i > 0 {
			b = append(b, ',')
		}
		b = appendElement(b, x)
	}
	return append(b, closing)
}

func appendField(b []byte, f api.Field) []byte {
	b = append(b, f.Key...)
	b = append(b, ':')
	return appendValue(b, f.Value)
}

// quoted is the literal of a string.
func quoted(s string) string { return string(appendString(nil, s)) }

// Get parses a literal.
func Get(s string) (api.Value, api.Errno) {
	p := parser{rest: s}
	v, ok := p.value()
	// The parser takes more than literals, for example numbers with leading zeros, and values that are not valid.
	if literal, err := Put(v); !ok || err != api.OK || literal != s {
		return api.Value{}, api.ErrSyntax
	}
	return v, api.OK
}

// parser takes values from the front of a text. It accepts each literal, and other forms of values.
type parser struct {
	rest  string // what has not been taken
	depth int    // the number of values that are being parsed, each within the one before
}

// value takes a value, unless it is nested so deep that it is not valid.
func (p *parser) value() (api.Value, bool) {
	p.depth++
	defer func() { p.depth-- }()
	switch {
	case p.depth > api.MaxNest:
		return api.Value{}, false
	case p.take(`"`):
		s, ok := p.text()
		return api.Value{Kind: api.Str, S: s}, ok
	case p.take("["):
		items, ok := elements(p, (*parser).value, "]")
		return api.Value{Kind: api.List, Items: items}, ok
	case p.take("{"):
		fields, ok := elements(p, (*parser).field, "}")
		return api.Value{Kind: api.Map, Fields: fields}, ok
	}
	return p.word()
}

// take takes what is expected, if it is there.
func (p *parser) take(expected string) bool {
	rest, ok := strings.CutPrefix(p.rest, expected)
	p.rest = rest
	return ok
}

// text takes the bytes of a string and the " behind them.
func (p *parser) text() (string, bool) {
	var b []byte
	for !p.take(`"`) {
		c, _, rest, err := strconv.UnquoteChar(p.rest, '"')
		if err != nil {
			return "", false
		}
		b = append(b, byte(c))
		p.rest = rest
	}
	return string(b), true
}

// elements takes elements that are separated by commas, and what closes them.
func elements[T any](p *parser, element func(*parser) (T, bool), closing string) ([]T, bool) {
	var all []T
	for !p.take(closing) {
		if len(all) > 0 && !p.take(",") {
			return nil, false
		}
		x, ok := element(p)
		if !ok {
			return nil, false
		}
		all = append(all, x)
	}
	return all, true
}

// field takes a field of a map.
func (p *parser) field() (api.Field, bool) {
	key, rest, _ := strings.Cut(p.rest, ":") // without a colon, no value is left either
	p.rest = rest
	v, ok := p.value()
	return api.Field{Key: key, Value: v}, ok
}

// word takes a Boolean or an integer, which ends before a comma or what closes a list or a map.
func (p *parser) word() (api.Value, bool) {
	end := strings.IndexAny(p.rest, ",]}")
	if end < 0 {
		end = len(p.rest)
	}
	word := p.rest[:end]
	p.rest = p.rest[end:]
	if word == "true" || word == "false" {
		return api.Value{Kind: api.Bool, B: word == "true"}, true
	}
	n, err := strconv.ParseInt(word, 10, 64)
	return api.Value{Kind: api.Int, N: n}, err == nil
}
