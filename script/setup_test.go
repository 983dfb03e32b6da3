package script_test

import (
	"fmt"
	"regexp"
	"slices"
	"strconv"
	"strings"
	"testing"

	"tmplpipe/api"
	"tmplpipe/script"
	"tmplpipe/value"
)

func str(s string) api.Value                { return api.Value{Kind: api.Str, S: s} }
func num(n int64) api.Value                 { return api.Value{Kind: api.Int, N: n} }
func boolean(b bool) api.Value              { return api.Value{Kind: api.Bool, B: b} }
func list(items ...api.Value) api.Value     { return api.Value{Kind: api.List, Items: items} }
func mapOf(fields ...api.Field) api.Value   { return api.Value{Kind: api.Map, Fields: fields} }
func field(k string, v api.Value) api.Field { return api.Field{Key: k, Value: v} }

// within returns a value within that many lists or, if there is a key, maps.
func within(v api.Value, levels int, key string) api.Value {
	for range levels {
		if key == "" {
			v = list(v)
		} else {
			v = mapOf(field(key, v))
		}
	}
	return v
}

// spelled is what the literal of a string has for a byte.
func spelled(c byte) string {
	switch {
	case c == '"':
		return `\"`
	case c == '\\':
		return `\\`
	case c == '\n':
		return `\n`
	case c < 32 || c > 126:
		return fmt.Sprintf(`\x%02x`, c)
	}
	return string(rune(c))
}

// written is the literal of a value.
func written(v api.Value) string {
	var parts []string
	switch v.Kind {
	case api.Str:
		b := []byte{'"'}
		for _, c := range []byte(v.S) {
			b = append(b, spelled(c)...)
		}
		return string(append(b, '"'))
	case api.Int:
		return fmt.Sprint(v.N)
	case api.Bool:
		return fmt.Sprint(v.B)
	case api.List:
		for _, item := range v.Items {
			parts = append(parts, written(item))
		}
		return "[" + strings.Join(parts, ",") + "]"
	}
	for _, f := range v.Fields {
		parts = append(parts, f.Key+":"+written(f.Value))
	}
	return "{" + strings.Join(parts, ",") + "}"
}

// The forms of strings, names and integers.
const (
	stringForm = `"(?:[ !#-\[\]-~]|\\["\\n]|\\x(?:0[0-9b-f]|1[0-9a-f]|7f|[89a-f][0-9a-f]))*"`
	nameForm   = `[A-Za-z][A-Za-z0-9_]{0,31}`
	numberForm = `(?:0|-?[1-9][0-9]*)`
)

var (
	tokenForm  = regexp.MustCompile(`^(?:` + stringForm + `|` + nameForm + `:|true|false|` + numberForm + `|[][{},])`)
	closedForm = regexp.MustCompile(`\[(?:#(?:,#)*)?\]|\{(?:\w+:#(?:,\w+:#)*)?\}`)
	keyForm    = regexp.MustCompile(`\w+:`)
)

// isLiteral reports whether a text is the literal of a valid value. It writes # for each simple value, and then again and
// again for the lists and maps that have only such elements.
func isLiteral(s string) bool {
	short, open := "", 0
	for s != "" {
		token := tokenForm.FindString(s)
		s = s[len(token):]
		switch last := token[max(0, len(token)-1):]; last {
		case "":
			return false
		case "]", "}":
			open--
			short += token
		case ",", ":":
			short += token
		case "[", "{":
			open++
			short += token
			if open > api.MaxNest {
				return false
			}
		default:
			if _, err := strconv.ParseInt(token, 10, 64); last >= "0" && last <= "9" && err != nil || open >= api.MaxNest {
				return false
			}
			short += "#"
		}
	}
	for before := ""; before != short; {
		before = short
		short = closedForm.ReplaceAllStringFunc(short, func(closed string) string {
			keys := keyForm.FindAllString(closed, -1)
			slices.Sort(keys)
			if len(slices.Compact(slices.Clone(keys))) < len(keys) {
				return closed
			}
			return "#"
		})
	}
	return short == "#"
}

// put checks the literal of a valid value, and that Get returns the value for it.
func put(t *testing.T, v api.Value, want string) {
	t.Helper()
	s, err := script.Put(v)
	if s != want || err != api.OK {
		t.Fatalf("Put(%.300v) = %.300q, %v, want %.300q", v, s, err, want)
	}
	if w, err := script.Get(s); !value.Equal(v, w) || err != api.OK {
		t.Fatalf("Get(%.300q) = %.300v, %v, want %.300v", s, w, err, v)
	}
}

// notPut checks that a value is not valid.
func notPut(t *testing.T, v api.Value, want api.Errno) {
	t.Helper()
	if got := value.Check(v); got != want {
		t.Fatalf("Check(%.300v) = %v, want %v", v, got, want)
	}
	if s, err := script.Put(v); s != "" || err != want {
		t.Fatalf("Put(%.300v) = %.300q, %v, want %v", v, s, err, want)
	}
}

// notGot checks that a text is no literal.
func notGot(t *testing.T, s string) {
	t.Helper()
	if v, err := script.Get(s); !value.Equal(v, api.Value{}) || err != api.ErrSyntax {
		t.Fatalf("Get(%.300q) = %.300v, %v", s, v, err)
	}
}

// got checks what Get returns for a text.
func got(t *testing.T, s string) {
	t.Helper()
	if !isLiteral(s) {
		notGot(t, s)
		return
	}
	v, err := script.Get(s)
	if err != api.OK || written(v) != s || value.Check(v) != api.OK {
		t.Fatalf("Get(%.300q) = %.300v, %v", s, v, err)
	}
	put(t, v, s)
}

// says checks the answers of a session to lines. Lines and answers alternate.
func says(t *testing.T, s *script.Session, dialogue ...string) {
	t.Helper()
	for i := 0; i+1 < len(dialogue); i += 2 {
		if got := s.Do(dialogue[i]); got != dialogue[i+1] {
			t.Fatalf("%d: %.300q is answered by %.300q, want %.300q", i/2, dialogue[i], got, dialogue[i+1])
		}
	}
}

// session returns a new session that has executed lines, all of which are answered by ok.
func session(t *testing.T, lines ...string) *script.Session {
	t.Helper()
	s := script.New()
	for _, line := range lines {
		says(t, s, line, "ok")
	}
	return s
}

// answers returns the answers of a session to lines.
func answers(s *script.Session, lines ...string) []string {
	var all []string
	for _, line := range lines {
		all = append(all, s.Do(line))
	}
	return all
}
