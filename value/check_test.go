package value_test

import (
	"strconv"
	"strings"
	"testing"

	"tmplpipe/api"
	"tmplpipe/value"
)

// pool returns values of all kinds, valid and not.
func pool() []api.Value {
	simple := []api.Value{str(""), str("a"), num(0), num(-1), boolean(false), boolean(true), list(), mapOf()}
	for kind := -1; kind <= 5; kind++ {
		simple = append(simple,
			api.Value{Kind: kind, S: "x"}, api.Value{Kind: kind, N: 7}, api.Value{Kind: kind, S: "x", N: 7}, api.Value{Kind: kind, S: "x", B: true},
			api.Value{Kind: kind, Items: []api.Value{str("i")}}, api.Value{Kind: kind, Fields: []api.Field{field("f", num(2))}},
			api.Value{Kind: kind, Items: []api.Value{num(1)}, Fields: []api.Field{field("f", num(2))}})
	}
	all := append(simple, api.Value{Kind: -1}, api.Value{Kind: 5})
	for _, x := range simple {
		all = append(all, list(x), list(x, x), list(list(x)), single("a", x), single("0", x), single("b", list(x)), list(single("a", x)))
		for _, y := range []api.Value{str(""), num(5), {Kind: 9}, list(boolean(true)), {Kind: api.Bool, S: "y"}, single("a", num(3)), single("", num(3))} {
			all = append(all, list(x, y), list(y, x), mapOf(field("a", x), field("b", y)), mapOf(field("b", x), field("a", y)),
				mapOf(field("a", x), field("a", y)), mapOf(field("a", y), field("_", x)), mapOf(field("", x), field("a", y)),
				single("a", mapOf(field("b", y), field("a", x))), mapOf(field("a", y), field("b", num(1)), field("a", x)))
		}
	}
	return all
}

// complaints says all that the chapter finds wrong with a value at a depth, in preorder.
func complaints(v api.Value, depth int) []api.Errno {
	var all []api.Errno
	add := func(wrong bool, err api.Errno) {
		if wrong {
			all = append(all, err)
		}
	}
	add(depth > 32, api.ErrNesting)
	isKind := false
	for _, kind := range []int{api.Str, api.Int, api.Bool, api.List, api.Map} {
		isKind = isKind || v.Kind == kind
	}
	add(!isKind, api.ErrType)
	rest := v // without the field of the kind
	switch v.Kind {
	case api.Str:
		rest.S = ""
	case api.Int:
		rest.N = 0
	case api.Bool:
		rest.B = false
	case api.List:
		rest.Items = nil
	case api.Map:
		rest.Fields = nil
	}
	add(dump(rest) != dump(api.Value{Kind: v.Kind}), api.ErrArg)
	for _, item := range v.Items {
		all = append(all, complaints(item, depth+1)...)
	}
	for i, f := range v.Fields {
		add(!value.IsName(f.Key), api.ErrName)
		for _, earlier := range v.Fields[:i] {
			add(earlier.Key == f.Key, api.ErrDuplicate)
		}
		all = append(all, complaints(f.Value, depth+1)...)
	}
	return all
}

func check(t *testing.T, v api.Value, want api.Errno) {
	if got := value.Check(v); got != want {
		t.Helper()
		t.Fatalf("Check(%.300s) = %v, want %v", dump(v), got, want)
	}
}

func TestCheckOfEachKind(t *testing.T) { // P9.2
	for _, s := range []string{"", "a", "\xff", "\x00", strings.Repeat("x", 1<<16)} {
		check(t, str(s), api.OK)
	}
	for _, n := range numbers {
		check(t, num(n), api.OK)
	}
	for _, v := range []api.Value{boolean(false), boolean(true), list(), list(str("")), list(num(1), str("a"), boolean(true)),
		{Kind: api.List, Items: []api.Value{}}, {Kind: api.Map, Fields: []api.Field{}}, {Kind: api.Str, Items: []api.Value{}, Fields: []api.Field{}},
		mapOf(), single("a", num(1)), single(strings.Repeat("k", api.MaxName), list()), mapOf(field("b", num(1)), field("a", num(1)), field("A", num(1))),
		single("a", single("a", single("a", num(1)))), list(single("a", num(1)), single("a", num(2))),
		mapOf(field("a", single("b", num(1))), field("b", single("b", num(1))))} {
		check(t, v, api.OK)
	}
	for _, kind := range unknownKinds {
		check(t, api.Value{Kind: kind}, api.ErrType)
		check(t, list(api.Value{Kind: kind}), api.ErrType)
		check(t, single("a", api.Value{Kind: kind}), api.ErrType)
		check(t, list(num(1), list(single("a", api.Value{Kind: kind}))), api.ErrType)
	}
}

// TestCheckForeignFields sets each field of each kind.
func TestCheckForeignFields(t *testing.T) { // P9.2
	settings := map[int][]api.Value{
		api.Str:  {{S: "a"}, {S: "\x00"}, {S: " "}},
		api.Int:  {{N: 1}, {N: -1}, {N: 1 << 32}, {N: -1 << 63}},
		api.Bool: {{B: true}},
		api.List: {{Items: []api.Value{num(1)}}, {Items: []api.Value{{}}}},
		api.Map:  {{Fields: []api.Field{field("a", num(1))}}, {Fields: []api.Field{field("ab", api.Value{})}}},
	}
	for kind := range 5 {
		for owner, values := range settings {
			want := api.ErrArg
			if owner == kind {
				want = api.OK
			}
			for _, v := range values {
				v.Kind = kind
				check(t, v, want)
				check(t, list(v), want)
				check(t, list(num(1), v), want)
				check(t, single("a", v), want)
				check(t, mapOf(field("b", list()), field("a", list(v))), want)
			}
		}
	}
	// An empty slice is no different from none.
	for kind := range 5 {
		check(t, api.Value{Kind: kind, Items: []api.Value{}, Fields: []api.Field{}}, api.OK)
	}
}

func TestCheckKeys(t *testing.T) { // P9.2
	for _, key := range []string{"", "0", "_", "a.b", ".", "a ", " a", "\u00e4", "a\x00", "a-b", strings.Repeat("k", api.MaxName+1)} {
		check(t, single(key, num(1)), api.ErrName)
		check(t, mapOf(field("a", num(1)), field(key, num(1)), field("b", num(1))), api.ErrName)
		check(t, mapOf(field("a", num(1)), field("b", num(1)), field(key, num(1))), api.ErrName)
		check(t, list(single("a", single(key, num(1)))), api.ErrName)
	}
	for c := range 256 {
		key := "k" + string([]byte{byte(c)})
		if strings.Contains(afterFirst, key[1:]) {
			check(t, single(key, num(1)), api.OK)
		} else {
			check(t, single(key, num(1)), api.ErrName)
		}
	}
}

// TestCheckEqualKeys puts two equal keys at each two places of a map.
func TestCheckEqualKeys(t *testing.T) { // P9.2
	for n := 2; n <= 6; n++ {
		for j := range n {
			for i := range j {
				v := mapOf()
				for k := range n {
					v.Fields = append(v.Fields, field("k"+strconv.Itoa(k), num(int64(k))))
				}
				check(t, v, api.OK)
				check(t, list(v, v), api.OK)
				v.Fields[j].Key = v.Fields[i].Key
				check(t, v, api.ErrDuplicate)
				check(t, list(num(1), v), api.ErrDuplicate)
				check(t, single("k0", v), api.ErrDuplicate)
			}
		}
	}
	check(t, mapOf(field("a", num(1)), field("A", num(1))), api.OK)
	check(t, mapOf(field("a", num(1)), field("a", num(1)), field("a", num(1))), api.ErrDuplicate)
	check(t, mapOf(field("ab", num(1)), field("a", num(1)), field("b", num(1)), field("aba", num(1))), api.OK)
	// Only fields of the same map count, not those in its values, before or after.
	check(t, mapOf(field("a", single("b", single("a", num(1)))), field("b", single("a", num(1)))), api.OK)
}

// TestCheckNesting puts values at each depth around MaxNest, in lists, in maps and in both.
func TestCheckNesting(t *testing.T) { // P9.2
	for n := range api.MaxNest + 5 {
		want := api.OK
		if n+1 > api.MaxNest {
			want = api.ErrNesting
		}
		for _, v := range []api.Value{str("a"), num(0), boolean(true), list(), mapOf()} {
			check(t, inLists(n, v), want)
			check(t, inMaps(n, v), want)
			for k := range n {
				check(t, inLists(k, inMaps(n-k, v)), want)
				check(t, inMaps(k, inLists(n-k, v)), want)
			}
			// The deepest element counts, at whatever place.
			if n > 0 {
				check(t, list(num(1), inLists(n-1, v), num(2)), want)
				check(t, mapOf(field("x", num(1)), field("y", inMaps(n-1, v)), field("z", num(2))), want)
				check(t, mapOf(field("y", inLists(n-1, v)), field("x", inMaps(n-1, v))), want)
			}
		}
	}
	check(t, inLists(1<<12, num(1)), api.ErrNesting)
	check(t, inMaps(1<<12, num(1)), api.ErrNesting)
	itself := list(num(0), num(0))
	itself.Items[0], itself.Items[1] = itself, itself
	if err := value.Check(itself); err != api.ErrNesting {
		t.Fatal(err)
	}
}

// TestCheckOrderOfErrors combines errors, of which the first one in preorder counts.
func TestCheckOrderOfErrors(t *testing.T) { // P9.2
	tooDeep := inLists(api.MaxNest, num(1))
	unknown := api.Value{Kind: 7}
	foreign := api.Value{Kind: api.Int, S: "s"}
	badKey := single("0", num(1))
	twice := mapOf(field("a", num(1)), field("a", num(2)))
	wrong := map[api.Errno]api.Value{api.ErrNesting: tooDeep, api.ErrType: unknown, api.ErrArg: foreign, api.ErrName: badKey, api.ErrDuplicate: twice}
	for err, v := range wrong {
		for _, w := range wrong {
			check(t, list(v, w), err)
			check(t, list(num(1), v, num(2), w), err)
			check(t, mapOf(field("a", v), field("b", w)), err)
			check(t, mapOf(field("z", v), field("", w)), err)
			check(t, mapOf(field("z", v), field("z", w)), err)
			check(t, mapOf(field("z", list(v)), field("y", w)), err)
			check(t, list(list(list(v)), w), err)
			check(t, mapOf(field("", v), field("b", w)), api.ErrName)
			check(t, mapOf(field("b", num(1)), field("b", v), field("", w)), api.ErrDuplicate)
			check(t, api.Value{Kind: 5, S: "s", Items: []api.Value{v, w}}, api.ErrType)
			check(t, api.Value{Kind: api.List, S: "s", Items: []api.Value{v, w}}, api.ErrArg)
			check(t, api.Value{Kind: api.Map, Items: []api.Value{v}, Fields: []api.Field{field("", w)}}, api.ErrArg)
			check(t, api.Value{Kind: api.List, Items: []api.Value{v}, Fields: []api.Field{field("", w)}}, api.ErrArg)
			check(t, mapOf(field("a", api.Value{Kind: api.List, N: 1, Items: []api.Value{v}}), field("a", w)), api.ErrArg)
		}
		// What is at too great a depth is wrong for that reason alone; what is beside it comes before or after.
		if err != api.ErrNesting {
			check(t, inLists(api.MaxNest, v), api.ErrNesting)
			check(t, inMaps(api.MaxNest, v), api.ErrNesting)
			check(t, inMaps(api.MaxNest-1, single("0", v)), api.ErrName)
		}
	}
	check(t, mapOf(field("", num(1)), field("", num(1))), api.ErrName)
	check(t, mapOf(field("0", num(1)), field("a", num(1)), field("a", num(1))), api.ErrName)
	check(t, mapOf(field("a", num(1)), field("a", num(1)), field("0", num(1))), api.ErrDuplicate)
	check(t, inMaps(api.MaxNest-1, mapOf(field("a", num(1)), field("a", num(1)))), api.ErrNesting)
	check(t, inMaps(api.MaxNest-2, mapOf(field("a", num(1)), field("a", num(1)))), api.ErrDuplicate)
}

func TestCheckPool(t *testing.T) { // P9.2
	for _, v := range pool() {
		for _, n := range []int{0, 1, api.MaxNest - 4, api.MaxNest - 3, api.MaxNest - 2, api.MaxNest - 1, api.MaxNest} {
			for _, w := range []api.Value{inLists(n, v), inMaps(n, v), list(num(1), inMaps(n, v), v), mapOf(field("q", v), field("r", inLists(n, v)))} {
				want := api.OK
				if all := complaints(w, 1); len(all) > 0 {
					want = all[0]
				}
				check(t, w, want)
			}
		}
	}
}

func TestCheckWideValues(t *testing.T) { // P9.2
	wide := mapOf()
	for i := range 1 << 17 {
		wide.Fields = append(wide.Fields, field("k"+strconv.Itoa(i), num(int64(i))))
	}
	if err := value.Check(wide); err != api.OK {
		t.Fatal(err)
	}
	wide.Fields = append(wide.Fields, field("k9", num(1)))
	if err := value.Check(wide); err != api.ErrDuplicate {
		t.Fatal(err)
	}
}

func equal(t *testing.T, a, b api.Value, want bool) {
	if value.Equal(a, b) != want || value.Equal(b, a) != want {
		t.Helper()
		t.Fatalf("Equal(%.200s, %.200s) = %v, %v the other way", dump(a), dump(b), value.Equal(a, b), value.Equal(b, a))
	}
}

// variants returns values that differ from v in one field alone.
func variants(v api.Value) []api.Value {
	kind, s, n, b, fewer, more, keys := v, v, v, v, v, v, v
	kind.Kind++
	s.S += "x"
	n.N ^= 1 << 40
	b.B = !b.B
	fewer.Items = nil
	fewer.Fields = nil
	more.Items = append(more.Items[:len(more.Items):len(more.Items)], str(""))
	keys.Fields = append(keys.Fields[:len(keys.Fields):len(keys.Fields)], field("", str("")))
	all := []api.Value{kind, s, n, b, more, keys}
	if dump(fewer) != dump(v) {
		all = append(all, fewer)
	}
	return all
}

func TestEqualAtTheTop(t *testing.T) { // P9.3
	for _, v := range append(pool(), api.Value{}) {
		equal(t, v, v, true)
		for _, w := range variants(v) {
			equal(t, v, w, false)
		}
	}
	for i, n := range numbers {
		for j, m := range numbers {
			equal(t, num(n), num(m), i == j)
		}
	}
	for i, k := range unknownKinds {
		for j, m := range unknownKinds {
			equal(t, api.Value{Kind: k}, api.Value{Kind: m}, i == j)
		}
	}
	for i, s := range []string{"", "a", "A", "a\x00", "\u00e4", "a\u0308", "\xff", "\ufffd", "aa"} {
		for j, r := range []string{"", "a", "A", "a\x00", "\u00e4", "a\u0308", "\xff", "\ufffd", "aa"} {
			equal(t, str(s), str(r), i == j)
			equal(t, single(s, num(1)), single(r, num(1)), i == j)
		}
	}
}

func TestEqualDeepInside(t *testing.T) { // P9.3
	for _, v := range []api.Value{str("s"), num(5), boolean(true), list(num(1), num(2)), mapOf(field("a", num(1)), field("b", num(2))), {}} {
		for _, n := range []int{1, 2, 5, 30, 31, 32, 33, 298} {
			equal(t, inLists(n, v), inLists(n, v), true)
			equal(t, inMaps(n, v), inMaps(n, v), true)
			equal(t, inLists(n, v), inLists(n+1, v), false)
			equal(t, inMaps(n, v), inMaps(n+1, v), false)
			equal(t, inLists(n, v), inMaps(n, v), false)
			for _, w := range variants(v) {
				equal(t, inLists(n, v), inLists(n, w), false)
				equal(t, inMaps(n, v), inMaps(n, w), false)
				equal(t, list(num(1), inMaps(n, v), num(2)), list(num(1), inMaps(n, w), num(2)), false)
				equal(t, mapOf(field("a", num(1)), field("b", inLists(n, v))), mapOf(field("a", num(1)), field("b", inLists(n, w))), false)
			}
		}
	}
	equal(t, inMaps(40, single("x", num(1))), inMaps(40, single("y", num(1))), false)
}

// TestEqualNumberAndOrder compares all lists and maps of up to three of some elements.
func TestEqualNumberAndOrder(t *testing.T) { // P9.3
	rows := [][]int{{}}
	for i := 0; len(rows[i]) < 3; i++ {
		for k := range 3 {
			rows = append(rows, append(rows[i][:len(rows[i]):len(rows[i])], k))
		}
	}
	build := func(row []int) (api.Value, api.Value, api.Value) {
		l, m, n := list(), mapOf(), mapOf()
		for _, k := range row {
			l.Items = append(l.Items, num(int64(k)))
			m.Fields = append(m.Fields, field(strconv.Itoa(k), num(1)))
			n.Fields = append(n.Fields, field("a", num(int64(k))))
		}
		return l, m, n
	}
	for i := range rows {
		for j := range rows {
			l, m, n := build(rows[i])
			o, p, q := build(rows[j])
			equal(t, l, o, i == j)
			equal(t, m, p, i == j)
			equal(t, n, q, i == j)
			equal(t, m, q, len(rows[i]) == 0 && len(rows[j]) == 0)
		}
	}
	equal(t, mapOf(field("a", num(1)), field("b", num(2))), mapOf(field("b", num(2)), field("a", num(1))), false)
}

func TestEqualEmptySlices(t *testing.T) { // P9.3, rule 4
	for kind := -1; kind <= 5; kind++ {
		equal(t, api.Value{Kind: kind}, api.Value{Kind: kind, Items: []api.Value{}, Fields: []api.Field{}}, true)
		equal(t, api.Value{Kind: kind, Items: make([]api.Value, 0, 5)}, api.Value{Kind: kind, Fields: make([]api.Field, 0, 5)}, true)
		equal(t, list(api.Value{Kind: kind, Items: []api.Value{}}), list(api.Value{Kind: kind}), true)
	}
	// What lies beyond the length of a slice does not count.
	long := []api.Value{num(1), num(2)}
	equal(t, list(long[:1]...), list(num(1)), true)
}

func TestEqualPool(t *testing.T) { // P9.3
	all := pool()
	dumps := make([]string, len(all))
	for i := range all {
		dumps[i] = dump(all[i])
	}
	for i := range all {
		for j := range i + 1 {
			if got := value.Equal(all[i], all[j]); got != (dumps[i] == dumps[j]) || got != value.Equal(all[j], all[i]) {
				t.Fatalf("Equal(%s, %s) = %v", dumps[i], dumps[j], got)
			}
		}
	}
}
