package value_test

import (
	"math"
	"slices"
	"strconv"
	"strings"
	"testing"

	"tmplpipe/api"
	"tmplpipe/value"
)

const (
	letters    = "ABCDEFGHIJKLMNOPQRSTUVWXYZabcdefghijklmnopqrstuvwxyz"
	afterFirst = letters + "0123456789_" // the bytes that a name may contain behind its first one
)

// numbers are integers, with the borders of the types among them.
var numbers = []int64{0, 1, -1, 5, 9, 10, -10, 255, -256, math.MaxInt32, math.MinInt32, math.MaxInt32 + 1, math.MinInt32 - 1,
	1 << 53, 1<<53 + 1, math.MaxInt64 - 1, math.MaxInt64, math.MinInt64 + 1, math.MinInt64}

// unknownKinds are numbers of which none is a kind.
var unknownKinds = []int{-1, -2, -4, -5, 5, 6, 7, 255, 256, 260, 1 << 16, 1 << 32, 1<<32 + 4, math.MinInt32, math.MaxInt32,
	math.MinInt, math.MinInt + 1, math.MaxInt - 1, math.MaxInt}

func str(s string) api.Value { return api.Value{Kind: api.Str, S: s} }

func num(n int64) api.Value { return api.Value{Kind: api.Int, N: n} }

func boolean(b bool) api.Value { return api.Value{Kind: api.Bool, B: b} }

func list(items ...api.Value) api.Value { return api.Value{Kind: api.List, Items: items} }

func mapOf(fields ...api.Field) api.Value { return api.Value{Kind: api.Map, Fields: fields} }

func field(key string, v api.Value) api.Field { return api.Field{Key: key, Value: v} }

// single returns a map with one field.
func single(key string, v api.Value) api.Value { return mapOf(field(key, v)) }

// inLists returns v in n lists.
func inLists(n int, v api.Value) api.Value {
	for range n {
		v = list(v)
	}
	return v
}

// inMaps returns v in n maps with the key a.
func inMaps(n int, v api.Value) api.Value {
	for range n {
		v = single("a", v)
	}
	return v
}

// dump writes down all that a value consists of. Two values have the same dump if all their fields are equal.
func dump(v api.Value) string {
	s := strconv.Itoa(v.Kind) + strconv.Quote(v.S) + strconv.FormatInt(v.N, 10) + strconv.FormatBool(v.B) + "["
	for _, item := range v.Items {
		s += dump(item) + ","
	}
	s += "]{"
	for _, f := range v.Fields {
		s += strconv.Quote(f.Key) + ":" + dump(f.Value) + ","
	}
	return s + "}"
}

// isName compares the result of IsName with what is wanted, and that of Split, for which a name is a path, too.
func isName(t *testing.T, s string, want bool) {
	if got := value.IsName(s); got != want {
		t.Helper()
		t.Fatalf("IsName(%.99q) = %v", s, got)
	}
}

// split compares the result of Split with what is wanted.
func split(t *testing.T, path string, want ...string) {
	if got, err := value.Split(path); !slices.Equal(got, want) || err != api.OK {
		t.Helper()
		t.Fatalf("Split(%.99q) = %.99q, %v; want %.99q", path, got, err, want)
	}
}

// noPath checks that a string is not a path, for Lookup in a value of any kind neither.
func noPath(t *testing.T, path string) {
	if got, err := value.Split(path); len(got) != 0 || err != api.ErrName {
		t.Helper()
		t.Fatalf("Split(%.99q) = %.99q, %v", path, got, err)
	}
	for _, v := range []api.Value{str("x"), num(5), boolean(true), list(num(1)), inMaps(9, num(5)), {Kind: -1}} {
		missed(t, v, path, api.ErrName)
	}
}

// found compares the result of Lookup with what is wanted.
func found(t *testing.T, v api.Value, path string, want api.Value) {
	if got, err := value.Lookup(v, path); dump(got) != dump(want) || err != api.OK {
		t.Helper()
		t.Fatalf("Lookup(%.200s, %.99q) = %.200s, %v; want %.200s", dump(v), path, dump(got), err, dump(want))
	}
}

// missed checks that Lookup returns an error.
func missed(t *testing.T, v api.Value, path string, want api.Errno) {
	if got, err := value.Lookup(v, path); dump(got) != dump(api.Value{}) || err != want {
		t.Helper()
		t.Fatalf("Lookup(%.200s, %.99q) = %.200s, %v; want %v", dump(v), path, dump(got), err, want)
	}
}

func text(t *testing.T, v api.Value, want string, wantErr api.Errno) {
	if got, err := value.Text(v); got != want || err != wantErr {
		t.Helper()
		t.Fatalf("Text(%.200s) = %.99q, %v; want %.99q, %v", dump(v), got, err, want, wantErr)
	}
}

func TestExamples(t *testing.T) { // P9.4
	found(t, single("a", single("b", num(5))), "a.b", num(5))
	missed(t, single("a", num(5)), "a.b", api.ErrType)
}

func TestIsNameByLength(t *testing.T) { // P9.1
	isName(t, "", false)
	for n := 1; n <= api.MaxName+3; n++ {
		for _, c := range []string{"a", "Z", "0", "_"} {
			isName(t, "x"+strings.Repeat(c, n-1), n <= api.MaxName)
		}
		isName(t, strings.Repeat("x", n-1)+"-", false)
		isName(t, "9"+strings.Repeat("x", n-1), false)
	}
	isName(t, strings.Repeat("a", 1<<20), false)
	isName(t, strings.Repeat("a", 1<<8+1), false)
	// The bytes are counted, not the runes.
	isName(t, strings.Repeat("\u00e4", api.MaxName/2), false)
}

func TestIsNameByBytes(t *testing.T) { // P9.1
	for c := range 256 {
		b := string([]byte{byte(c)})
		first := strings.Contains(letters, b)
		later := strings.Contains(afterFirst, b)
		isName(t, b, first)
		isName(t, b+"a", first)
		isName(t, b+"_0", first)
		isName(t, b+strings.Repeat("a", api.MaxName-1), first)
		isName(t, "a"+b, later)
		isName(t, "Z"+b+"z", later)
		isName(t, "q7_"+b, later)
		isName(t, strings.Repeat("a", api.MaxName-1)+b, later)
		isName(t, strings.Repeat("a", api.MaxName)+b, false)
	}
}

func TestIsNameBeyondASCII(t *testing.T) { // P9.1
	for _, s := range []string{"\u00e4", "\u00c9", "\u03b1", "\u0416", "\u4e2d", "\U0001d400", "\u0660", "\uff21", "\uff11",
		"\uff3f", "\u212a", "\u00aa", "\ufffd", "\ufeff", "\x80", "\xc3", "\xff", "\u2028", "\x00", "\u0301"} {
		isName(t, s, false)
		isName(t, "a"+s, false)
		isName(t, s+"a", false)
		isName(t, "a"+s+"b", false)
	}
}

func TestIsNameOfOtherStrings(t *testing.T) { // P9.1
	for _, s := range []string{"a", "A", "z", "Z", "a0", "aB_9", "x_", "x__", "if", "range", "define", "true", "nil", "e9"} {
		isName(t, s, true)
	}
	for _, s := range []string{"_", "_a", "0", "0a", "9", "-", ".", "a.", ".a", "a.b", "a-b", " ", " a", "a ", "a b", "a\n",
		"a\x00", "{{a}}", ".a.b", "$a", "a[0]", "a:b", "@", "[", "`", "{", "/", ":"} {
		isName(t, s, false)
	}
}

func TestSplit(t *testing.T) { // P9.1
	split(t, "")
	split(t, "a", "a")
	split(t, "a.b", "a", "b")
	split(t, "a.a.a", "a", "a", "a")
	split(t, "abc.D_1.x9", "abc", "D_1", "x9")
	long := strings.Repeat("n", api.MaxName)
	split(t, long, long)
	split(t, long+"."+long+".b", long, long, "b")
	for _, path := range []string{long + "n", long + "n.a", "a." + long + "n", "a." + long + "n.a"} {
		noPath(t, path)
	}
}

func TestSplitByNumberOfNames(t *testing.T) { // P9.1
	for _, name := range []string{"a", "Bc_3", strings.Repeat("x", api.MaxName)} {
		for n := 1; n <= api.MaxPath+4; n++ {
			names := slices.Repeat([]string{name}, n)
			path := strings.Join(names, ".")
			if n <= api.MaxPath {
				split(t, path, names...)
			} else {
				noPath(t, path)
			}
		}
	}
	split(t, "a.b.c.d.e.f.g.h", "a", "b", "c", "d", "e", "f", "g", "h")
	noPath(t, "a.b.c.d.e.f.g.h.i")
	noPath(t, strings.Repeat("a.", 1<<20)+"a")
	noPath(t, strings.Repeat(".", 1<<20))
}

func TestSplitByPeriods(t *testing.T) { // P9.1
	for n := 1; n <= api.MaxPath+2; n++ {
		noPath(t, strings.Repeat(".", n))
		path := strings.Join(slices.Repeat([]string{"a"}, n), ".")
		noPath(t, "."+path)
		noPath(t, path+".")
		noPath(t, "."+path+".")
		noPath(t, path+"..")
		noPath(t, ".."+path)
		for i := range n - 1 { // each period of the path is doubled, replaced and left out
			noPath(t, path[:2*i+1]+".."+path[2*i+2:])
			noPath(t, path[:2*i+1]+" "+path[2*i+2:])
			noPath(t, path[:2*i+1]+"\uff0e"+path[2*i+2:])
		}
	}
}

func TestSplitByBytes(t *testing.T) { // P9.1
	for c := range 256 {
		b := string([]byte{byte(c)})
		if strings.Contains(letters, b) {
			split(t, b, b)
			split(t, b+".a", b, "a")
			split(t, "a."+b, "a", b)
		} else {
			noPath(t, b)
			noPath(t, b+".a")
			noPath(t, "a."+b)
			noPath(t, "a."+b+".c")
		}
		switch {
		case strings.Contains(afterFirst, b):
			split(t, "a"+b, "a"+b)
			split(t, "a"+b+".x", "a"+b, "x")
			split(t, "x.a"+b, "x", "a"+b)
		case b == ".":
			noPath(t, "a"+b)
		default:
			noPath(t, "a"+b)
			noPath(t, "a"+b+".x")
			noPath(t, "x.a"+b+"b.y")
			noPath(t, "a.b.c.d.e.f.g.h"+b)
		}
	}
}

// TestSplitShortStrings splits all short strings of some bytes, and compares with what the chapter calls a path.
func TestSplitShortStrings(t *testing.T) { // P9.1
	var visit func(s string, left int)
	visit = func(s string, left int) {
		names := strings.Split(s, ".")
		switch {
		case s == "":
			split(t, s)
		case !slices.ContainsFunc(names, func(name string) bool { return name == "" || strings.Contains("0_", name[:1]) }):
			split(t, s, names...)
		default:
			noPath(t, s)
		}
		if left > 0 {
			for _, c := range []string{"a", "Z", "0", "_", "."} {
				visit(s+c, left-1)
			}
		}
	}
	visit("", 5)
}

func TestLookupEmptyPath(t *testing.T) { // P9.4
	for _, v := range pool() {
		found(t, v, "", v)
	}
}

func TestLookupEachLength(t *testing.T) { // P9.4
	names := []string{"a", "b", "c", "d", "e", "f", "g", "h"}
	for _, end := range []api.Value{num(5), str(""), boolean(false), list(), mapOf(), {Kind: 9, S: "x"}} {
		for n := range api.MaxPath + 1 {
			v := end
			for _, name := range slices.Backward(names[:n]) {
				v = mapOf(field("other", num(1)), field(name, v), field("z", num(2)))
			}
			path := strings.Join(names[:n], ".")
			found(t, v, path, end)
			if n == api.MaxPath {
				noPath(t, path+".i")
			} else if end.Kind == api.Map {
				missed(t, v, strings.TrimPrefix(path+".i", "."), api.ErrMissing)
			} else {
				missed(t, v, strings.TrimPrefix(path+".i", "."), api.ErrType)
			}
		}
	}
}

// TestLookupEachStep puts a value that is no map, and a map without the key, at each step of a path.
func TestLookupEachStep(t *testing.T) { // P9.4
	path := "a.a.a.a.a.a.a.a"
	for n := range api.MaxPath {
		for _, v := range []api.Value{str("a"), num(5), boolean(true), list(), list(single("a", num(1))), {Kind: -1}, {Kind: 5},
			{Kind: api.List, Fields: []api.Field{field("a", num(1))}}, {Kind: api.Str, Fields: []api.Field{field("a", num(1))}}} {
			missed(t, inMaps(n, v), path, api.ErrType)
			missed(t, inMaps(n, v), path[:2*n+1], api.ErrType)
			found(t, inMaps(n, v), path[:max(0, 2*n-1)], v)
		}
		for _, v := range []api.Value{mapOf(), single("b", inMaps(8, num(1))), single("A", num(1)), single("aa", num(1)), single("", num(1)),
			{Kind: api.Map, Items: []api.Value{single("a", num(1))}}} {
			missed(t, inMaps(n, v), path, api.ErrMissing)
			missed(t, inMaps(n, v), path[:2*n+1], api.ErrMissing)
			found(t, inMaps(n, v), path[:max(0, 2*n-1)], v)
		}
	}
}

func TestLookupFirstOfEqualKeys(t *testing.T) { // P9.4
	v := mapOf(field("b", num(0)), field("a", num(1)), field("a", num(2)), field("b", num(3)), field("a", num(4)))
	found(t, v, "a", num(1))
	found(t, v, "b", num(0))
	// What the first field leads to counts, even if the path goes on in a later one only.
	twice := mapOf(field("a", single("x", num(1))), field("a", single("y", num(2))))
	found(t, twice, "a.x", num(1))
	missed(t, twice, "a.y", api.ErrMissing)
	missed(t, mapOf(field("a", num(1)), field("a", single("y", num(2)))), "a.y", api.ErrType)
	found(t, mapOf(field("a", single("y", num(2))), field("a", num(1))), "a.y", num(2))
}

func TestLookupInInvalidValues(t *testing.T) { // P9.4
	bad := api.Value{Kind: api.Map, S: "x", N: 7, B: true, Items: []api.Value{num(1)},
		Fields: []api.Field{field("0", num(1)), field("a.b", num(2)), field("", num(3)), field("a", api.Value{Kind: 17, S: "y", N: 2}),
			field("m", api.Value{Kind: api.Map, B: true, Fields: []api.Field{field("x", api.Value{Kind: api.Int, S: "s"})}})}}
	found(t, bad, "", bad)
	found(t, bad, "a", api.Value{Kind: 17, S: "y", N: 2})
	found(t, bad, "m.x", api.Value{Kind: api.Int, S: "s"})
	missed(t, bad, "a.b", api.ErrType)
	missed(t, bad, "b", api.ErrMissing)
	missed(t, bad, "m.y", api.ErrMissing)
	missed(t, bad, "m.x.y", api.ErrType)
	noPath(t, "0")
	missed(t, bad, "0", api.ErrName)
	deep := inMaps(1<<12, num(5))
	for n := range api.MaxPath {
		got, err := value.Lookup(deep, strings.Repeat("a.", n)+"a")
		if err != api.OK || got.Kind != api.Map || len(got.Fields) != 1 {
			t.Fatal(n, err)
		}
	}
	// A value that contains itself has no end, but a path has.
	itself := single("a", num(0))
	itself.Fields[0].Value = itself
	if got, err := value.Lookup(itself, "a.a.a.a.a.a.a.a"); err != api.OK || got.Kind != api.Map {
		t.Fatal(err)
	}
	missed(t, itself, "a.a.b", api.ErrMissing)
}

// TestLookupOrderOfErrors checks that what is no path is found before what is no map, and each step before the next.
func TestLookupOrderOfErrors(t *testing.T) { // P9.4
	v := mapOf(field("n", num(1)), field("m", mapOf()))
	for _, path := range []string{"n.x.0", "m.x.0", "x..y", "n.", ".n", "x.y.", "a.b.c.d.e.f.g.h.i", "n.\u00e4"} {
		missed(t, v, path, api.ErrName)
	}
	missed(t, v, "n.x.y", api.ErrType)
	missed(t, v, "m.x.y", api.ErrMissing)
	missed(t, v, "x.n", api.ErrMissing)
	missed(t, str("s"), "x.n", api.ErrType)
}

func TestLookupInPool(t *testing.T) { // P9.4
	for _, v := range pool() {
		for _, path := range []string{"a", "b", "a.a", "a.b", "b.a", "zz"} {
			current, want := v, api.OK
			for _, name := range strings.Split(path, ".") {
				if current.Kind != api.Map {
					want = api.ErrType
					break
				}
				i := 0
				for i < len(current.Fields) && current.Fields[i].Key != name {
					i++
				}
				if i == len(current.Fields) {
					want = api.ErrMissing
					break
				}
				current = current.Fields[i].Value
			}
			if want == api.OK {
				found(t, v, path, current)
			} else {
				missed(t, v, path, want)
			}
		}
	}
}

func TestText(t *testing.T) { // P9.5
	for _, s := range []string{"", "a", "0", "-5", "a<b", "\x00", "\xff", "\u20ac", strings.Repeat("long", 1<<16)} {
		text(t, str(s), s, api.OK)
	}
	for n, want := range map[int64]string{0: "0", 1: "1", -1: "-1", 9: "9", 10: "10", -10: "-10", 1000000: "1000000", -42: "-42",
		math.MaxInt32 + 1: "2147483648", math.MaxInt64: "9223372036854775807", math.MinInt64: "-9223372036854775808",
		math.MinInt64 + 1: "-9223372036854775807"} {
		text(t, num(n), want, api.OK)
	}
	for _, v := range []api.Value{boolean(false), boolean(true), list(), list(str("a")), mapOf(), single("a", num(1))} {
		text(t, v, "", api.ErrType)
	}
	for _, kind := range unknownKinds {
		text(t, api.Value{Kind: kind}, "", api.ErrType)
		text(t, api.Value{Kind: kind, S: "a", N: 5}, "", api.ErrType)
	}
}

// TestTextOfInvalidValues checks that the kind alone says which field counts.
func TestTextOfInvalidValues(t *testing.T) { // P9.5
	for kind := range 5 {
		v := api.Value{Kind: kind, S: "s", N: 7, B: true, Items: []api.Value{num(1)}, Fields: []api.Field{field("a", num(1))}}
		switch kind {
		case api.Str:
			text(t, v, "s", api.OK)
		case api.Int:
			text(t, v, "7", api.OK)
		default:
			text(t, v, "", api.ErrType)
		}
	}
}

func TestSplitSharing(t *testing.T) { // P9.1, rules 4 and 7
	first, _ := value.Split("a.b.c")
	second, _ := value.Split("x.y.z")
	first[0], first[1], first[2] = "changed", "", "0"
	second = append(second[:1], "more")
	split(t, "a.b.c", "a", "b", "c")
	split(t, "x.y.z", "x", "y", "z")
	if !slices.Equal(second, []string{"x", "more"}) {
		t.Fatal(second)
	}
	third, _ := value.Split("p.q")
	fourth, _ := value.Split("r.s")
	third[0], fourth[1] = "t", "u"
	if third[1] != "q" || fourth[0] != "r" {
		t.Fatal(third, fourth)
	}
}

// TestArgumentsStay checks that no function changes a value that it gets.
func TestArgumentsStay(t *testing.T) { // rule 4
	for _, v := range pool() {
		before := dump(v)
		value.Check(v)
		value.Equal(v, v)
		value.Lookup(v, "a.b")
		value.Lookup(v, "0")
		value.Text(v)
		value.To(v)
		if dump(v) != before {
			t.Fatalf("%s became %s", before, dump(v))
		}
	}
}

// TestLookupKeepsNothing changes a value after it was looked at.
func TestLookupKeepsNothing(t *testing.T) { // P9.4, rules 4 and 7
	v := mapOf(field("a", list(num(1), num(2))), field("b", str("s")))
	found(t, v, "a", list(num(1), num(2)))
	v.Fields[0].Value.Items[0] = num(9)
	v.Fields[1].Key = "c"
	found(t, v, "a", list(num(9), num(2)))
	found(t, v, "c", str("s"))
	missed(t, v, "b", api.ErrMissing)
	other := mapOf(field("a", list(num(3), num(4))))
	got, _ := value.Lookup(other, "a")
	mine, _ := value.Lookup(v, "a")
	got.Items[0] = num(100)
	if mine.Items[0].N != 9 {
		t.Fatal(dump(mine))
	}
	found(t, v, "a", list(num(9), num(2)))
}
