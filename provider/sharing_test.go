package provider_test

import (
	"slices"
	"testing"

	"tmplpipe/api"
)

// nested returns fields whose values have slices at several depths, with elements beyond the length of each.
func nested() []api.Field {
	items := func(l ...api.Value) api.Value { return list(append(l, text("beyond"))[:len(l)]...) }
	inner := append([]api.Field{field("k", items(text("1"))), field("l", text("2"))}, field("beyond", text("x")))[:2]
	return append([]api.Field{
		field("a", items(text("3"), items(text("4"), text("5")), mapOf(inner...))),
		field("b", mapOf(field("m", items(text("6"))), field("n", mapOf(field("o", text("7")))))),
		field("c", text("8")),
	}, field("beyond", text("x")))[:3]
}

// spoil changes all that a value consists of in its slices, up to their capacities.
func spoil(v api.Value) {
	items := v.Items[:cap(v.Items)]
	for i := range items {
		spoil(items[i])
		items[i] = api.Value{Kind: 9, S: "spoiled"}
	}
	fields := v.Fields[:cap(v.Fields)]
	for i := range fields {
		spoil(fields[i].Value)
		fields[i] = field("spoiled", api.Value{Kind: 9, S: "spoiled"})
	}
}

// TestArgumentsMayChangeLater changes the arguments of New before any pull, and after each number of pulls.
func TestArgumentsMayChangeLater(t *testing.T) { // P10.1, rule 4
	for before := range 6 {
		fields, fail := nested(), append([]string{"x", "y"}, "beyond")
		p := create(t, fields, fail[:2])
		names := []string{"a", "x", "b", "c", "y"}
		for _, name := range names[:before] {
			p.Get(name)
		}
		spoil(mapOf(fields...))
		fail[0], fail[1], fail[2] = "a", "b", "0"
		for range 2 {
			for _, f := range nested() {
				get(t, p, f.Key, f.Value, api.OK)
			}
			get(t, p, "x", api.Value{}, api.ErrProvider)
			get(t, p, "y", api.Value{}, api.ErrProvider)
			get(t, p, "spoiled", api.Value{}, api.ErrMissing)
			get(t, p, "beyond", api.Value{}, api.ErrMissing)
		}
	}
}

// TestOneChangeAtATime changes each single part of the fields.
func TestOneChangeAtATime(t *testing.T) { // P10.1, rule 4
	changes := []func([]api.Field){
		func(l []api.Field) { l[0].Key = "z" },
		func(l []api.Field) { l[2].Value.S = "z" },
		func(l []api.Field) { l[0], l[1] = l[1], l[0] },
		func(l []api.Field) { l[0].Value.Items[0].S = "z" },
		func(l []api.Field) { l[0].Value.Items[1].Items[1] = mapOf() },
		func(l []api.Field) { l[0].Value.Items[2].Fields[1].Key = "z" },
		func(l []api.Field) { l[0].Value.Items[2].Fields[0].Value.Items[0].S = "z" },
		func(l []api.Field) { l[1].Value.Fields[0].Value.Items[0] = list() },
		func(l []api.Field) { l[1].Value.Fields[1].Key = "z" },
		func(l []api.Field) { l[1].Value.Fields[1].Value.Fields[0].Value.S = "z" },
		func(l []api.Field) { clear(l) },
	}
	for _, change := range changes {
		for _, pullFirst := range []bool{false, true} {
			fields := nested()
			p := create(t, fields, nil)
			if pullFirst {
				p.Get("a")
				p.Get("b")
			}
			change(fields)
			for _, f := range nested() {
				get(t, p, f.Key, f.Value, api.OK)
			}
			get(t, p, "z", api.Value{}, api.ErrMissing)
		}
	}
}

// TestArgumentsStay looks also at what lies beyond the lengths of the arguments, after New succeeded and failed.
func TestArgumentsStay(t *testing.T) { // P10.1, rule 4
	for _, last := range []string{"y", "0"} {
		fields, fail := nested(), append([]string{"x", "a", last}, "c", "0")
		if last == "0" {
			rejected(t, fields, fail[:3], api.ErrName)
		} else {
			p := create(t, fields, fail[:3])
			get(t, p, "a", api.Value{}, api.ErrProvider)
			get(t, p, "c", fields[2].Value, api.OK)
		}
		if got, want := dump(mapOf(fields[:4]...)), dump(mapOf(nested()[:4]...)); got != want {
			t.Fatalf("the fields became %s, not %s", got, want)
		}
		if got := fields[0].Value.Items[:4][3]; got.S != "beyond" {
			t.Fatalf("what is beyond the items became %s", dump(got))
		}
		if !slices.Equal(fail, []string{"x", "a", last, "c", "0"}) {
			t.Fatalf("the failing names became %q", fail)
		}
	}
}

// TestResultOfGetMayChangeLater changes results of Get deep inside; neither later results nor the arguments change.
func TestResultOfGetMayChangeLater(t *testing.T) { // P10.2, P10.4, rule 4
	fields := nested()
	p := create(t, fields, nil)
	for _, f := range nested() {
		for range 3 {
			first, _ := p.Get(f.Key)
			second, _ := p.Get(f.Key)
			spoil(first)
			if dump(second) != dump(f.Value) {
				t.Fatalf("a change of one result of Get(%q) made the other %s", f.Key, dump(second))
			}
			get(t, p, f.Key, f.Value, api.OK)
		}
	}
	if dump(mapOf(fields...)) != dump(mapOf(nested()...)) {
		t.Fatalf("the fields became %s", dump(mapOf(fields...)))
	}
}

// TestPartsOfResultShareNothing uses one list at several places.
func TestPartsOfResultShareNothing(t *testing.T) { // P10.2, rule 4
	twice := list(text("1"), mapOf(field("k", text("2"))))
	fields := []api.Field{field("a", list(twice, twice)), field("b", mapOf(field("c", twice), field("d", twice))), field("e", twice)}
	want := dump(twice)
	p := create(t, fields, nil)
	a, _ := p.Get("a")
	b, _ := p.Get("b")
	e, _ := p.Get("e")
	spoil(a.Items[0])
	spoil(b.Fields[0].Value)
	for _, v := range []api.Value{a.Items[1], b.Fields[1].Value, e, twice} {
		if dump(v) != want {
			t.Fatalf("%s, want %s", dump(v), want)
		}
	}
}

// TestProvidersShareNoValues creates two providers with the same arguments.
func TestProvidersShareNoValues(t *testing.T) { // P2, rule 4
	fields, fail := nested(), []string{"x"}
	first, second := create(t, fields, fail), create(t, fields, fail)
	for _, f := range nested() {
		v, _ := first.Get(f.Key)
		spoil(v)
		pulls(t, second)
	}
	fail[0] = "c"
	third := create(t, fields, fail)
	get(t, third, "c", api.Value{}, api.ErrProvider)
	get(t, third, "x", api.Value{}, api.ErrMissing)
	for _, f := range nested() {
		get(t, second, f.Key, f.Value, api.OK)
		get(t, first, f.Key, f.Value, api.OK)
	}
	get(t, second, "x", api.Value{}, api.ErrProvider)
}

// TestResultOfPullsMayChangeLater changes results of Pulls, also beyond their lengths, between pulls.
func TestResultOfPullsMayChangeLater(t *testing.T) { // P10.3, rule 4
	p, answers := mixed(t)
	var pulled []string
	for _, a := range answers {
		pulled = ask(t, p, a, pulled)
		first, second := p.Pulls(), p.Pulls()
		first = first[:cap(first)]
		for i := range first {
			first[i] = "0"
		}
		if !slices.Equal(second, pulled) {
			t.Fatalf("a change of one result made the other %q, want %q", second, pulled)
		}
		for _, b := range answers {
			if slices.Contains(pulled, b.name) {
				ask(t, p, b, pulled)
			}
		}
	}
}

// TestResultOfPullsStays keeps all results of Pulls, lengthened, while more names are pulled.
func TestResultOfPullsStays(t *testing.T) { // P10.3, rule 4
	p := create(t, nil, nil)
	var results [][]string
	for n := range api.MaxName {
		results = append(results, append(p.Pulls(), "added"))
		p.Get(longest[n:])
	}
	for n, l := range results {
		if len(l) != n+1 || l[n] != "added" || !slices.Equal(l[:n], p.Pulls()[:n]) {
			t.Fatalf("later pulls made result %d %q", n, l)
		}
	}
}
