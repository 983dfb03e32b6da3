package value_test

import (
	"cmp"
	"math"
	"reflect"
	"slices"
	"strconv"
	"strings"
	"testing"

	"tmplpipe/api"
	"tmplpipe/value"
)

// Types of one's own, which From does not permit.
type (
	ownString string
	ownInt    int
	ownInt64  int64
	ownBool   bool
	ownSlice  []any
	ownMap    map[string]any
	ownStruct struct{ S string }
)

// wrongTypes returns Go values of types that From does not permit.
func wrongTypes() []any {
	var none *int
	s, n, b, l, m := "s", 5, true, []any{1}, map[string]any{"a": 1}
	return []any{nil, int8(1), int16(1), int32(1), uint(1), uint8(1), uint16(1), uint32(1), uint64(1), uintptr(1), 'a',
		float32(1), 1.5, 1.0, math.NaN(), math.Inf(1), complex(1, 0), complex64(1), []byte("a"), []rune("a"),
		[]string{"a"}, []string{}, []string(nil), []int{1}, []int64{1}, []bool{true}, [][]any{{1}}, []map[string]any{{}}, []error{},
		map[string]string{"a": "b"}, map[string]string{}, map[string]int{"a": 1}, map[string]bool{}, map[int]any{1: 1},
		map[any]any{"a": 1}, map[string][]any{}, map[ownString]any{"a": 1}, [1]any{1}, [0]any{}, [2]string{"a", "b"},
		ownString("a"), ownInt(1), ownInt64(1), ownBool(true), ownSlice{1}, ownSlice(nil), ownMap{"a": 1}, ownMap(nil), ownStruct{"a"}, struct{}{},
		none, &s, &n, &b, &l, &m, &ownStruct{}, func() {}, make(chan int), api.ErrArg, api.OK, api.Value{}, str("a"), api.Field{}, []api.Value{},
		reflect.ValueOf(1), &none}
}

// permitted returns Go values that From converts, with the values that they are converted to.
func permitted() ([]any, []api.Value) {
	xs := []any{"", "a", "\xff\x00", strings.Repeat("x", 1<<12), true, false, []any{}, []any(nil), map[string]any{}, map[string]any(nil),
		[]any{1}, []any{"a", int64(2), false, []any{}}, map[string]any{"a": 1}, map[string]any{"b": "x", "a": []any{true}},
		[]any{map[string]any{"x": map[string]any{"y": []any{0}}}, []any{[]any{}}}}
	vs := []api.Value{str(""), str("a"), str("\xff\x00"), str(strings.Repeat("x", 1<<12)), boolean(true), boolean(false), list(), list(), mapOf(), mapOf(),
		list(num(1)), list(str("a"), num(2), boolean(false), list()), single("a", num(1)), mapOf(field("a", list(boolean(true))), field("b", str("x"))),
		list(single("x", single("y", list(num(0)))), list(list()))}
	for _, n := range numbers {
		xs = append(xs, n, int(n), []any{int(n), n})
		vs = append(vs, num(n), num(n), list(num(n), num(n)))
	}
	return xs, vs
}

// slicesOf returns x in n slices.
func slicesOf(n int, x any) any {
	for range n {
		x = []any{x}
	}
	return x
}

// mapsOf returns x in n maps with the key a.
func mapsOf(n int, x any) any {
	for range n {
		x = map[string]any{"a": x}
	}
	return x
}

// from compares the result of From with what is wanted, and checks that it is valid.
func from(t *testing.T, x any, want api.Value) {
	got, err := value.From(x)
	if err != api.OK || dump(got) != dump(want) || value.Check(got) != api.OK {
		t.Helper()
		t.Fatalf("From(%T %.200v) = %.200s, %v; want %.200s", x, x, dump(got), err, dump(want))
	}
}

// fromFails checks that From returns an error.
func fromFails(t *testing.T, x any, want api.Errno) {
	if got, err := value.From(x); err != want || dump(got) != dump(api.Value{}) {
		t.Helper()
		t.Fatalf("From(%T) = %.200s, %v; want %v", x, dump(got), err, want)
	}
}

// to compares the result of To with what is wanted, types included.
func to(t *testing.T, v api.Value, want any) {
	if got := value.To(v); !reflect.DeepEqual(got, want) {
		t.Helper()
		t.Fatalf("To(%.200s) = %T %.200v; want %T %.200v", dump(v), got, got, want, want)
	}
}

// plain returns the Go value that is equivalent to x, and that To can return: with int64, and without nil slices and maps.
func plain(x any) any {
	switch x := x.(type) {
	case int:
		return int64(x)
	case []any:
		l := []any{}
		for _, y := range x {
			l = append(l, plain(y))
		}
		return l
	case map[string]any:
		m := map[string]any{}
		for key, y := range x {
			m[key] = plain(y)
		}
		return m
	}
	return x
}

// ordered returns a copy of v in which the fields of all maps are sorted by their keys.
func ordered(v api.Value) api.Value {
	v.Items, v.Fields = slices.Clone(v.Items), slices.Clone(v.Fields)
	for i := range v.Items {
		v.Items[i] = ordered(v.Items[i])
	}
	for i := range v.Fields {
		v.Fields[i].Value = ordered(v.Fields[i].Value)
	}
	slices.SortFunc(v.Fields, func(a, b api.Field) int { return cmp.Compare(a.Key, b.Key) })
	return v
}

func TestFromPermittedTypes(t *testing.T) { // P9.6
	xs, vs := permitted()
	for i, x := range xs {
		from(t, x, vs[i])
		from(t, []any{x}, list(vs[i]))
		from(t, []any{"s", x, 5}, list(str("s"), vs[i], num(5)))
		from(t, map[string]any{"k": x}, single("k", vs[i]))
		from(t, map[string]any{"z": x, "a": 1, "k": []any{x}}, mapOf(field("a", num(1)), field("k", list(vs[i])), field("z", vs[i])))
		from(t, slicesOf(20, x), inLists(20, vs[i]))
		from(t, mapsOf(20, x), inMaps(20, vs[i]))
	}
	from(t, any(any("a")), str("a"))
	from(t, []interface{}{"a"}, list(str("a")))
}

func TestFromOtherTypes(t *testing.T) { // P9.6
	for _, x := range wrongTypes() {
		for _, y := range []any{x, []any{x}, []any{1, x}, []any{x, 1}, []any{1, []any{x}, 2}, map[string]any{"a": x}, map[string]any{"a": 1, "b": x},
			map[string]any{"a": x, "b": 1}, []any{map[string]any{"a": []any{x}}}, slicesOf(31, x), slicesOf(32, x), slicesOf(33, x), slicesOf(1000, x),
			mapsOf(31, x), mapsOf(32, x), mapsOf(33, x), mapsOf(1000, x)} {
			fromFails(t, y, api.ErrType)
		}
	}
}

// TestFromTypesFirst combines a wrong type with the errors of Check, before it and after it.
func TestFromTypesFirst(t *testing.T) { // P9.6
	tooDeep := slicesOf(api.MaxNest, 1)
	for _, x := range []any{nil, 1.5, []string{}, ownInt(1)} {
		fromFails(t, []any{tooDeep, x}, api.ErrType)
		fromFails(t, []any{x, tooDeep}, api.ErrType)
		fromFails(t, map[string]any{"": 1, "a": x}, api.ErrType)
		fromFails(t, map[string]any{"0": 1, "a": x}, api.ErrType)
		fromFails(t, map[string]any{"a": x, "~": 1}, api.ErrType)
		fromFails(t, map[string]any{"": x}, api.ErrType)
		fromFails(t, []any{map[string]any{"0": tooDeep}, []any{1, x}}, api.ErrType)
		fromFails(t, slicesOf(api.MaxNest, []any{1, x}), api.ErrType)
	}
}

func TestFromKeys(t *testing.T) { // P9.6
	for _, key := range []string{"", "0", "_", "a.b", ".", "a ", "\u00e4", "a\x00", "\xff", strings.Repeat("k", api.MaxName+1)} {
		fromFails(t, map[string]any{key: 1}, api.ErrName)
		fromFails(t, map[string]any{"a": 1, key: 1, "z": 1}, api.ErrName)
		fromFails(t, []any{1, map[string]any{"x": map[string]any{key: []any{}}}}, api.ErrName)
	}
	from(t, map[string]any{strings.Repeat("k", api.MaxName): 1}, single(strings.Repeat("k", api.MaxName), num(1)))
}

// TestFromNesting converts values at each depth around MaxNest.
func TestFromNesting(t *testing.T) { // P9.6
	for n := range api.MaxNest + 5 {
		xs := []any{"a", 0, int64(-1), true, []any{}, map[string]any(nil)}
		vs := []api.Value{str("a"), num(0), num(-1), boolean(true), list(), mapOf()}
		for i, x := range xs {
			for k := range n + 1 {
				y, v := slicesOf(k, mapsOf(n-k, x)), inLists(k, inMaps(n-k, vs[i]))
				z, w := mapsOf(k, []any{1, slicesOf(n-k, x)}), inMaps(k, list(num(1), inLists(n-k, vs[i])))
				if n < api.MaxNest {
					from(t, y, v)
				} else {
					fromFails(t, y, api.ErrNesting)
				}
				if n+1 < api.MaxNest {
					from(t, z, w)
				} else {
					fromFails(t, z, api.ErrNesting)
				}
			}
		}
	}
	fromFails(t, slicesOf(1<<16, 1), api.ErrNesting)
	fromFails(t, mapsOf(1<<16, 1), api.ErrNesting)
}

// TestFromFirstErrorOfCheck has several errors of Check, of which the first one in the order of the sorted keys counts.
func TestFromFirstErrorOfCheck(t *testing.T) { // P9.6
	tooDeep := slicesOf(api.MaxNest, 1)
	badKey := map[string]any{"0": 1}
	fromFails(t, []any{tooDeep, badKey}, api.ErrNesting)
	fromFails(t, []any{badKey, tooDeep}, api.ErrName)
	for range 20 { // the iteration order of a Go map changes
		fromFails(t, map[string]any{"a": tooDeep, "b": badKey}, api.ErrNesting)
		fromFails(t, map[string]any{"a": badKey, "b": tooDeep}, api.ErrName)
		fromFails(t, map[string]any{"a": tooDeep, "~": 1}, api.ErrNesting)
		fromFails(t, map[string]any{"!": 1, "a": tooDeep}, api.ErrName)
		fromFails(t, map[string]any{"_": 1, "a": tooDeep}, api.ErrName)
		fromFails(t, map[string]any{"Z": tooDeep, "_": 1, "a": 1}, api.ErrNesting)
		fromFails(t, map[string]any{"": tooDeep}, api.ErrName)
	}
}

// TestFromItself converts slices and maps that contain themselves: they are nested too deep.
func TestFromItself(t *testing.T) { // P9.6, P1
	l := []any{1, nil}
	l[1] = l
	fromFails(t, l, api.ErrNesting)
	m := map[string]any{"a": 1}
	m["b"] = m
	fromFails(t, m, api.ErrNesting)
	both := []any{map[string]any{"a": nil}}
	both[0].(map[string]any)["a"] = both
	fromFails(t, both, api.ErrNesting)
	wrong := []any{nil, 1.5}
	wrong[0] = wrong
	fromFails(t, wrong, api.ErrType)
	m["1"] = 1
	fromFails(t, m, api.ErrName)
}

func TestFromOrderOfFields(t *testing.T) { // P9.6
	keys := strings.Fields("A A0 AB A_ Aa Z Z9 a a0 a00 a1 a10 a2 aA aAa a_ a_a aa aaa ab b z zZ z_ zz")
	if !slices.IsSorted(keys) {
		t.Fatal("the keys are not sorted")
	}
	for range 20 { // the iteration order of a Go map changes
		m, v := map[string]any{}, mapOf()
		for i, key := range keys {
			m[key] = i
			v.Fields = append(v.Fields, field(key, num(int64(i))))
		}
		from(t, m, v)
		from(t, []any{map[string]any{"x": m, "w": m}}, list(mapOf(field("w", v), field("x", v))))
	}
	wide, v := map[string]any{}, mapOf()
	for i := range 1000 {
		key := "k" + strconv.Itoa(1000+i)
		wide[key] = key
		v.Fields = append(v.Fields, field(key, str(key)))
	}
	from(t, wide, v)
}

func TestToOfEachKind(t *testing.T) { // P9.6
	to(t, str(""), "")
	to(t, str("a\xff"), "a\xff")
	for _, n := range numbers {
		to(t, num(n), n)
		to(t, list(num(n)), []any{n})
	}
	to(t, boolean(true), true)
	to(t, boolean(false), false)
	to(t, list(), []any{})
	to(t, mapOf(), map[string]any{})
	to(t, list(str("a"), num(1), boolean(true), list(), mapOf()), []any{"a", int64(1), true, []any{}, map[string]any{}})
	to(t, mapOf(field("b", num(1)), field("a", list(str("s")))), map[string]any{"a": []any{"s"}, "b": int64(1)})
	to(t, inLists(299, num(5)), slicesOf(299, int64(5)))
	to(t, inMaps(299, num(5)), mapsOf(299, int64(5)))
	for _, kind := range unknownKinds {
		v := api.Value{Kind: kind, S: "s", N: 1, B: true, Items: []api.Value{num(1)}, Fields: []api.Field{field("a", num(1))}}
		to(t, api.Value{Kind: kind}, nil)
		to(t, v, nil)
		to(t, list(num(1), v, num(2)), []any{int64(1), nil, int64(2)})
		to(t, mapOf(field("a", v), field("b", num(2))), map[string]any{"a": nil, "b": int64(2)})
	}
}

// TestToOfInvalidValues checks that the kind alone says which field counts, and that any key does.
func TestToOfInvalidValues(t *testing.T) { // P9.6
	all := api.Value{S: "s", N: 1, B: true, Items: []api.Value{num(1)}, Fields: []api.Field{field("a", num(1))}}
	for kind, want := range []any{"s", int64(1), true, []any{int64(1)}, map[string]any{"a": int64(1)}} {
		v := all
		v.Kind = kind
		to(t, v, want)
		to(t, list(v, v), []any{want, want})
	}
	to(t, mapOf(field("", num(1)), field("0", num(2)), field("a.b", num(3))), map[string]any{"": int64(1), "0": int64(2), "a.b": int64(3)})
}

func TestToLastOfEqualKeys(t *testing.T) { // P9.6
	to(t, mapOf(field("a", num(1)), field("a", num(2))), map[string]any{"a": int64(2)})
	to(t, mapOf(field("a", num(1)), field("b", num(2)), field("a", str("x")), field("b", list()), field("c", num(3))),
		map[string]any{"a": "x", "b": []any{}, "c": int64(3)})
	to(t, mapOf(field("a", num(1)), field("a", num(2)), field("a", num(3))), map[string]any{"a": int64(3)})
	to(t, mapOf(field("a", num(1)), field("a", api.Value{Kind: 9})), map[string]any{"a": nil})
	to(t, mapOf(field("a", api.Value{Kind: 9}), field("a", num(1))), map[string]any{"a": int64(1)})
	to(t, list(single("x", mapOf(field("", num(1)), field("", num(2))))), []any{map[string]any{"x": map[string]any{"": int64(2)}}})
}

func TestToOfFrom(t *testing.T) { // P9.7
	xs, _ := permitted()
	for _, x := range xs {
		for _, y := range []any{x, []any{x, 1}, map[string]any{"b": x, "a": []any{x}}, slicesOf(20, x), mapsOf(20, x)} {
			v, err := value.From(y)
			if err != api.OK {
				t.Fatal(err)
			}
			to(t, v, plain(y))
			// What To returns is converted to the same value.
			from(t, value.To(v), v)
		}
	}
}

func TestFromOfTo(t *testing.T) { // P9.7
	valid := 0
	for _, v := range pool() {
		if value.Check(v) != api.OK {
			continue
		}
		valid++
		from(t, value.To(v), ordered(v))
		w := list(mapOf(field("z", v), field("y", num(1)), field("A", single("b", v))), v)
		from(t, value.To(w), ordered(w))
	}
	if valid < 100 {
		t.Fatal("only", valid, "valid values")
	}
	for _, n := range numbers {
		from(t, value.To(num(n)), num(n))
	}
	from(t, value.To(mapOf(field("c", num(1)), field("b", mapOf(field("z", num(3)), field("y", num(4)))), field("a", num(2)))),
		mapOf(field("a", num(2)), field("b", mapOf(field("y", num(4)), field("z", num(3)))), field("c", num(1))))
	fromFails(t, value.To(api.Value{Kind: 5}), api.ErrType)
	fromFails(t, value.To(list(api.Value{Kind: -1})), api.ErrType)
	fromFails(t, value.To(single("0", num(1))), api.ErrName)
	fromFails(t, value.To(inLists(32, num(1))), api.ErrNesting)
}

// sample returns a new Go value, and the value that it is converted to.
func sample() (map[string]any, api.Value) {
	x := map[string]any{"a": []any{1, []any{"s"}}, "b": map[string]any{"c": true}}
	return x, mapOf(field("a", list(num(1), list(str("s")))), field("b", single("c", boolean(true))))
}

// spoil changes all that a value consists of.
func spoil(v api.Value) {
	for i := range v.Items {
		spoil(v.Items[i])
		v.Items[i] = num(666)
	}
	for i := range v.Fields {
		spoil(v.Fields[i].Value)
		v.Fields[i] = field("spoiled", num(666))
	}
}

// spoilGo changes all that a Go value consists of.
func spoilGo(x any) {
	switch x := x.(type) {
	case []any:
		for i := range x {
			spoilGo(x[i])
			x[i] = 1.5
		}
	case map[string]any:
		for key := range x {
			spoilGo(x[key])
		}
		clear(x)
	}
}

// TestFromSharing changes the argument and the results of From.
func TestFromSharing(t *testing.T) { // P9.6, rules 4 and 7
	x, want := sample()
	first, _ := value.From(x)
	second, _ := value.From(x)
	spoil(first)
	y, _ := sample()
	if !reflect.DeepEqual(x, y) || dump(second) != dump(want) {
		t.Fatalf("after a change of a result: %v, %s", x, dump(second))
	}
	from(t, x, want)
	spoilGo(x)
	if dump(second) != dump(want) {
		t.Fatalf("after a change of the argument: %s", dump(second))
	}
	from(t, y, want)
	// The same slice at two places leads to two lists.
	twice := []any{1}
	v, _ := value.From([]any{twice, twice})
	spoil(v.Items[0])
	if dump(v.Items[1]) != dump(list(num(1))) {
		t.Fatal(dump(v))
	}
}

// TestToSharing changes the argument and the results of To.
func TestToSharing(t *testing.T) { // P9.6, rules 4 and 7
	x, v := sample()
	want := plain(x)
	first, second := value.To(v), value.To(v)
	spoilGo(first)
	_, same := sample()
	if dump(v) != dump(same) || !reflect.DeepEqual(second, want) {
		t.Fatalf("after a change of a result: %s, %v", dump(v), second)
	}
	to(t, v, want)
	spoil(v)
	if !reflect.DeepEqual(second, want) {
		t.Fatalf("after a change of the argument: %v", second)
	}
	to(t, same, want)
	// The same list at two places leads to two slices, and a map may be added to, an empty one, too.
	inner := list(num(1), mapOf())
	l := value.To(list(inner, inner)).([]any)
	spoilGo(l[0])
	if !reflect.DeepEqual(l[1], []any{int64(1), map[string]any{}}) {
		t.Fatal(l)
	}
	value.To(mapOf()).(map[string]any)["a"] = 1
	to(t, mapOf(), map[string]any{})
}
