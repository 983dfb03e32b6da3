package provider_test

import (
	"slices"
	"strings"
	"testing"

	"tmplpipe/api"
	"tmplpipe/provider"
)

// answer is what Get returns for a name, and whether the name is then among the pulled ones.
type answer struct {
	name   string
	value  api.Value
	err    api.Errno
	pulled bool
}

// mixed returns a provider with some names of each sort, and what the chapter says of these names.
func mixed(t *testing.T) (*provider.Provider, []answer) {
	t.Helper()
	deep := mapOf(field("g", text("inner")), field("x", text("inner")), field("m", list(text("inner"))))
	fields := []api.Field{field("f", deep), field("both", text("never")), field("g", list(text("1"), text("2")))}
	return create(t, fields, []string{"x", "both", "y", "x"}), []answer{
		{"f", deep, api.OK, true},
		{"g", list(text("1"), text("2")), api.OK, true},
		{"x", api.Value{}, api.ErrProvider, true},
		{"both", api.Value{}, api.ErrProvider, true},
		{"m", api.Value{}, api.ErrMissing, true},
		{"F", api.Value{}, api.ErrMissing, true},
		{"", api.Value{}, api.ErrName, false},
		{"f.g", api.Value{}, api.ErrName, false},
	}
}

// ask calls Get and compares all that can be observed afterwards; it returns the names that are pulled now.
func ask(t *testing.T, p *provider.Provider, a answer, pulled []string) []string {
	t.Helper()
	get(t, p, a.name, a.value, a.err)
	if a.pulled && !slices.Contains(pulled, a.name) {
		pulled = append(pulled, a.name)
	}
	pulls(t, p, pulled...)
	return pulled
}

// TestGetSequences tries every sequence of four calls of Get, so each name once and several times, after each other name.
func TestGetSequences(t *testing.T) { // P10.2 to P10.4
	_, answers := mixed(t)
	n := len(answers)
	for code := range n * n * n * n {
		p, _ := mixed(t)
		var pulled []string
		for range 4 {
			pulled = ask(t, p, answers[code%n], pulled)
			code /= n
		}
	}
}

// TestGetOrders calls Get for all the names in every order, and then for all of them again.
func TestGetOrders(t *testing.T) { // P10.2 to P10.4
	_, answers := mixed(t)
	forEachOrder(answers, 0, func(order []answer) {
		p, _ := mixed(t)
		var want []string
		for _, a := range order {
			if get(t, p, a.name, a.value, a.err); a.pulled {
				want = append(want, a.name)
			}
		}
		pulls(t, p, want...)
		for _, a := range order {
			get(t, p, a.name, a.value, a.err)
		}
		pulls(t, p, want...)
	})
}

// forEachOrder calls f for each order of the elements from start on.
func forEachOrder(l []answer, start int, f func([]answer)) {
	if start == len(l) {
		f(l)
		return
	}
	for i := start; i < len(l); i++ {
		l[start], l[i] = l[i], l[start]
		forEachOrder(l, start+1, f)
		l[start], l[i] = l[i], l[start]
	}
}

// TestGetManyTimes calls Get in an irregular order.
func TestGetManyTimes(t *testing.T) { // P10.2 to P10.4
	p, answers := mixed(t)
	var pulled []string
	seed := uint32(1)
	for range 5000 {
		seed = seed*1664525 + 1013904223
		pulled = ask(t, p, answers[int(seed>>20)%len(answers)], pulled)
	}
	if len(pulled) != 6 {
		t.Fatal(pulled)
	}
}

// TestGetOfNoName calls Get for strings that are no names: nothing is pulled, at first and between pulls.
func TestGetOfNoName(t *testing.T) { // P10.2
	for _, s := range noNames {
		p, answers := mixed(t)
		none := answer{s, api.Value{}, api.ErrName, false}
		pulled := ask(t, p, none, nil)
		for _, a := range answers {
			pulled = ask(t, p, a, pulled)
			for range 2 {
				pulled = ask(t, p, none, pulled)
			}
		}
		pulls(t, p, "f", "g", "x", "both", "m", "F")
	}
}

// TestGetByBytes calls Get for each string of one byte, and of a letter and a byte.
func TestGetByBytes(t *testing.T) { // P10.2
	const letters = "ABCDEFGHIJKLMNOPQRSTUVWXYZabcdefghijklmnopqrstuvwxyz"
	p, _ := mixed(t)
	var pulled []string
	for _, before := range []string{"", "q"} {
		permitted := letters
		if before != "" {
			permitted += "0123456789_"
		}
		for c := range 256 {
			b := string([]byte{byte(c)})
			a := answer{before + b, api.Value{}, api.ErrName, false}
			switch {
			case a.name == "f" || a.name == "g" || a.name == "x" || a.name == "y":
				continue
			case strings.Contains(permitted, b):
				a.err, a.pulled = api.ErrMissing, true
			}
			pulled = ask(t, p, a, pulled)
		}
	}
	if len(pulled) != len(letters)-4+len(letters)+11 {
		t.Fatal(pulled)
	}
}

// TestGetByLength calls Get for names of each length, of which each is the beginning of the next.
func TestGetByLength(t *testing.T) { // P10.2, P10.3
	var fields []api.Field
	var fail, pulled []string
	for n := 1; n <= api.MaxName; n++ {
		switch n % 3 {
		case 0:
			fields = append(fields, field(longest[:n], text(longest[:n])))
		case 1:
			fail = append(fail, longest[:n])
		}
	}
	p := create(t, fields, fail)
	for n := api.MaxName; n > 0; n-- {
		a := []answer{{longest[:n], text(longest[:n]), api.OK, true}, {longest[:n], api.Value{}, api.ErrProvider, true}, {longest[:n], api.Value{}, api.ErrMissing, true}}[n%3]
		pulled = ask(t, p, a, pulled)
	}
	get(t, p, longest+"n", api.Value{}, api.ErrName)
	pulls(t, p, pulled...)
	if len(pulled) != api.MaxName {
		t.Fatal(pulled)
	}
}

// TestGetIsOnePull calls Get for a failing, a missing and a present name again and again.
func TestGetIsOnePull(t *testing.T) { // P10.2, P10.4
	for _, a := range []answer{
		{"x", api.Value{}, api.ErrProvider, true}, {"both", api.Value{}, api.ErrProvider, true},
		{"m", api.Value{}, api.ErrMissing, true}, {"g", list(text("1"), text("2")), api.OK, true},
	} {
		p, _ := mixed(t)
		for range 10 {
			get(t, p, a.name, a.value, a.err)
			pulls(t, p, a.name)
		}
	}
}

// TestGetLooksAtRootNamesOnly calls Get for keys that occur only deep inside, and pulls nothing of what is inside.
func TestGetLooksAtRootNamesOnly(t *testing.T) { // P10.2
	inner := mapOf(field("b", mapOf(field("c", text("x")))))
	p := create(t, []api.Field{field("a", inner)}, []string{"c"})
	get(t, p, "b", api.Value{}, api.ErrMissing)
	get(t, p, "c", api.Value{}, api.ErrProvider)
	get(t, p, "a.b", api.Value{}, api.ErrName)
	pulls(t, p, "b", "c")
	get(t, p, "a", inner, api.OK)
	pulls(t, p, "b", "c", "a")
}

// TestProvidersAreIndependent uses two providers side by side that know the same names.
func TestProvidersAreIndependent(t *testing.T) { // P2
	a := create(t, []api.Field{field("n", text("1")), field("only", text("3"))}, []string{"x"})
	b := create(t, []api.Field{field("n", text("2")), field("x", text("4"))}, []string{"only"})
	get(t, a, "n", text("1"), api.OK)
	pulls(t, b)
	get(t, b, "x", text("4"), api.OK)
	get(t, a, "x", api.Value{}, api.ErrProvider)
	get(t, b, "n", text("2"), api.OK)
	get(t, b, "only", api.Value{}, api.ErrProvider)
	pulls(t, a, "n", "x")
	get(t, a, "only", text("3"), api.OK)
	get(t, a, "n", text("1"), api.OK)
	pulls(t, a, "n", "x", "only")
	pulls(t, b, "x", "n", "only")
}

func TestNilProvider(t *testing.T) { // P10.2, P10.3: the sentence below the function list
	var p *provider.Provider
	for range 2 {
		for _, name := range append([]string{"a", longest}, noNames...) {
			get(t, p, name, api.Value{}, api.ErrNil)
			pulls(t, p)
		}
	}
}
