package script_test

import (
	"fmt"
	"math"
	"slices"
	"strconv"
	"strings"
	"testing"

	"tmplpipe/api"
	"tmplpipe/script"
	"tmplpipe/value"
)

// literal is a value with its literal.
type literal struct {
	v api.Value
	s string
}

// literals has all kinds of values.
func literals() []literal {
	key := strings.Repeat("k", api.MaxName)
	return []literal{
		{str(""), `""`}, {str("a"), `"a"`}, {str(" "), `" "`}, {str("~"), `"~"`}, {str("a b  c "), `"a b  c "`}, {str(`say "x"`), `"say \"x\""`}, {str(`\n`), `"\\n"`},
		{str("a\nb\r\n\tc\x00"), `"a\nb\x0d\n\x09c\x00"`}, {str("\x7f\x80\xff"), `"\x7f\x80\xff"`}, {str("\u00e4\u20ac"), `"\xc3\xa4\xe2\x82\xac"`}, {str("\xe2\x82"), `"\xe2\x82"`},
		{str("'`<>&/"), "\"'`<>&/\""}, {str("[1,{a:2}]"), `"[1,{a:2}]"`}, {str(`\x41`), `"\\x41"`}, {str(`"`), `"\""`}, {str(`\`), `"\\"`}, {str(`\"`), `"\\\""`},
		{num(0), "0"}, {num(-1), "-1"}, {num(1), "1"}, {num(10), "10"}, {num(-100), "-100"}, {num(math.MaxInt64), "9223372036854775807"}, {num(math.MinInt64), "-9223372036854775808"},
		{num(math.MaxInt32 + 1), "2147483648"}, {num(math.MinInt32 - 1), "-2147483649"}, {num(math.MinInt64 + 1), "-9223372036854775807"},
		{boolean(true), "true"}, {boolean(false), "false"},
		{list(), "[]"}, {list(list()), "[[]]"}, {list(list(), list(list(), mapOf())), "[[],[[],{}]]"}, {list(mapOf()), "[{}]"}, {list(num(1), boolean(true)), "[1,true]"},
		{list(num(1), num(2), num(3)), "[1,2,3]"}, {list(str(""), str("]"), str(","), num(-7)), `["","]",",",-7]`}, {list(boolean(false), boolean(false)), "[false,false]"},
		{mapOf(), "{}"}, {mapOf(field("a", mapOf())), "{a:{}}"}, {mapOf(field("a", list())), "{a:[]}"}, {mapOf(field("a", num(1)), field("b", str("}"))), `{a:1,b:"}"}`},
		{mapOf(field("b", num(1)), field("a", num(1))), "{b:1,a:1}"}, {mapOf(field("a", num(1)), field("A", num(1)), field("a1", num(1)), field("a_", num(1))), "{a:1,A:1,a1:1,a_:1}"},
		{mapOf(field("true", boolean(false)), field("x", str("a:b"))), `{true:false,x:"a:b"}`}, {mapOf(field(key, num(0))), "{" + key + ":0}"},
		{mapOf(field("a", mapOf(field("a", mapOf(field("a", num(1))))))), "{a:{a:{a:1}}}"},
		{list(mapOf(field("a", num(1))), mapOf(field("a", num(2)))), "[{a:1},{a:2}]"}, {mapOf(field("x", mapOf(field("a", num(1)))), field("a", num(1))), "{x:{a:1},a:1}"},
		{mapOf(field("a", str("x")), field("b", list(num(1), boolean(true)))), `{a:"x",b:[1,true]}`}, // the example of the chapter
	}
}

// TestPutEachKind has values and their literals, alone and within others.
func TestPutEachKind(t *testing.T) { // P22.1, P22.4
	for _, l := range literals() {
		put(t, l.v, l.s)
		put(t, list(l.v), "["+l.s+"]")
		put(t, mapOf(field("a", l.v)), "{a:"+l.s+"}")
		for _, m := range literals() {
			put(t, list(l.v, m.v), "["+l.s+","+m.s+"]")
			put(t, mapOf(field("x", l.v), field("y_2", list(m.v, l.v))), "{x:"+l.s+",y_2:["+m.s+","+l.s+"]}")
		}
		if !isLiteral(l.s) || written(l.v) != l.s {
			t.Error(l) // a fault in the tests
		}
	}
}

// TestPutEmptySlices has fields that are empty but not nil, which makes no difference.
func TestPutEmptySlices(t *testing.T) { // P22.1
	for kind, want := range []string{`""`, "0", "false", "[]", "{}"} {
		put(t, api.Value{Kind: kind, Items: []api.Value{}, Fields: []api.Field{}}, want)
	}
}

// TestPutBytes has strings of each byte, and of each pair of bytes.
func TestPutBytes(t *testing.T) { // P22.1, P22.4
	raw := 0
	for c := range 256 {
		a := spelled(byte(c))
		if len(a) == 1 {
			raw++
		}
		put(t, str(string([]byte{byte(c)})), `"`+a+`"`)
		put(t, mapOf(field("k", str("x"+string([]byte{byte(c)})+"y"))), `{k:"x`+a+`y"}`)
		for d := range 256 {
			put(t, str(string([]byte{byte(c), byte(d)})), `"`+a+spelled(byte(d))+`"`)
		}
	}
	if raw != 93 {
		t.Error(raw) // the bytes from 32 to 126, without two
	}
}

// TestPutNumbers has integers about each power of two and of ten.
func TestPutNumbers(t *testing.T) { // P22.1, P22.4
	for _, base := range []int64{2, 10} {
		for n := int64(1); n > 0 && n <= math.MaxInt64/base; n *= base {
			for _, m := range []int64{n - 1, n, n + 1, n*base - 1, -n, -n - 1} {
				put(t, num(m), strconv.FormatInt(m, 10))
			}
		}
	}
}

// TestPutDepth has values of each depth that value.Check accepts, and deeper ones.
func TestPutDepth(t *testing.T) { // P22.1, P22.4
	for levels := range api.MaxNest + 4 {
		for _, l := range []literal{{num(1), "1"}, {str("x"), `"x"`}, {boolean(true), "true"}, {list(), "[]"}, {mapOf(), "{}"}} {
			for _, v := range []api.Value{
				within(l.v, levels, ""), within(l.v, levels, "k"), within(within(l.v, levels/2, "a"), levels-levels/2, ""), within(within(l.v, levels/3, ""), levels-levels/3, "b"),
			} {
				if levels < api.MaxNest {
					put(t, v, written(v))
				} else {
					notPut(t, v, api.ErrNesting)
					notGot(t, written(v))
				}
			}
			if levels < api.MaxNest {
				put(t, list(num(1), within(l.v, max(0, levels-1), ""), num(2), within(l.v, max(0, levels-1), "c")), written(list(num(1), within(l.v, max(0, levels-1), ""), num(2), within(l.v, max(0, levels-1), "c"))))
				put(t, within(l.v, levels, ""), strings.Repeat("[", levels)+l.s+strings.Repeat("]", levels))
				put(t, within(l.v, levels, "k"), strings.Repeat("{k:", levels)+l.s+strings.Repeat("}", levels))
			}
		}
	}
	for _, levels := range []int{100, 1000, 30000} {
		notPut(t, within(num(1), levels, ""), api.ErrNesting)
		notPut(t, within(num(1), levels, "a"), api.ErrNesting)
	}
}

// withFields is a value with fields that are not zero, namely those of the kinds whose bits are set.
func withFields(kind, bits int) api.Value {
	v := api.Value{Kind: kind}
	if bits&1 > 0 {
		v.S = "x"
	}
	if bits&2 > 0 {
		v.N = 1
	}
	v.B = bits&4 > 0
	if bits&8 > 0 {
		v.Items = []api.Value{num(1)}
	}
	if bits&16 > 0 {
		v.Fields = []api.Field{field("a", num(1))}
	}
	return v
}

// wrong is a value that is not valid.
type wrong struct {
	v   api.Value
	err api.Errno
}

// wrongs has each error of value.Check, some of them for several reasons, of which the first one counts.
func wrongs() []wrong {
	one := num(1)
	all := []wrong{
		{api.Value{Kind: 5}, api.ErrType}, {api.Value{Kind: -1}, api.ErrType}, {api.Value{Kind: math.MaxInt, S: "x"}, api.ErrType}, {api.Value{Kind: math.MinInt, Items: []api.Value{one}}, api.ErrType},
		{api.Value{Kind: api.List, Items: []api.Value{one, {Kind: 5}}, N: 1}, api.ErrArg}, {list(one, api.Value{Kind: 9}), api.ErrType},
		{mapOf(field("", one)), api.ErrName}, {mapOf(field("1", one)), api.ErrName}, {mapOf(field("_a", one)), api.ErrName}, {mapOf(field("a b", one)), api.ErrName}, {mapOf(field("a.b", one)), api.ErrName},
		{mapOf(field("a:", one)), api.ErrName}, {mapOf(field("\u00e4", one)), api.ErrName}, {mapOf(field(strings.Repeat("k", api.MaxName+1), one)), api.ErrName}, {mapOf(field("a\n", one)), api.ErrName},
		{mapOf(field("a", one), field("b", one), field("?", one)), api.ErrName},
		{mapOf(field("a", one), field("a", one)), api.ErrDuplicate}, {mapOf(field("a", one), field("b", one), field("a", str("x"))), api.ErrDuplicate},
		{mapOf(field("a", one), field("a", one), field("?", one)), api.ErrDuplicate}, {mapOf(field("a", api.Value{Kind: 7}), field("a", one)), api.ErrType}, {mapOf(field("?", api.Value{Kind: 7})), api.ErrName},
		{list(mapOf(field("a", one), field("a", one)), api.Value{Kind: 5}), api.ErrDuplicate},
	}
	for kind := range 5 {
		for fields := range 32 {
			if v := withFields(kind, fields); fields&^(1<<kind) != 0 {
				all = append(all, wrong{v, api.ErrArg})
			}
		}
	}
	return all
}

// TestPutWrong has values that are not valid, alone, within other values, and behind them.
func TestPutWrong(t *testing.T) { // P22.1
	for _, w := range wrongs() {
		notPut(t, w.v, w.err)
		for levels := range api.MaxNest + 2 {
			for _, key := range []string{"", "a"} {
				v := within(w.v, levels, key)
				if levels < api.MaxNest-2 {
					notPut(t, v, w.err)
				} else {
					notPut(t, v, value.Check(v)) // what is within the value may be too deep
				}
			}
		}
		notPut(t, list(num(1), w.v, num(2)), w.err)
		notPut(t, mapOf(field("x", num(1)), field("y", list(mapOf(), w.v))), w.err)
		for _, later := range wrongs() {
			notPut(t, list(w.v, later.v), w.err)
			notPut(t, mapOf(field("x", list(w.v)), field("y", later.v)), w.err)
		}
	}
}

// TestPutArguments checks that Put does not change what it is given, nor reads behind the end of a slice.
func TestPutArguments(t *testing.T) { // rule 4
	items := []api.Value{num(1), str("a"), {Kind: 9}}
	fields := []api.Field{field("a", list(items[:2]...)), field("b", num(2)), field("b", num(3))}
	v := mapOf(fields[:2]...)
	put(t, v, `{a:[1,"a"],b:2}`)
	v = mapOf(field("x", list(items[:2]...)), field("y", mapOf(fields[:2]...)))
	put(t, v, `{x:[1,"a"],y:{a:[1,"a"],b:2}}`)
	notPut(t, list(items...), api.ErrType)
	notPut(t, mapOf(fields...), api.ErrDuplicate)
	if got := fmt.Sprint(items, fields); got != fmt.Sprint([]api.Value{num(1), str("a"), {Kind: 9}}, []api.Field{field("a", list(num(1), str("a"))), field("b", num(2)), field("b", num(3))}) {
		t.Error(got)
	}
}

// TestGetSharesNothing changes a result of Get, which does not affect others, not even parts of the same one.
func TestGetSharesNothing(t *testing.T) { // rule 4
	const s = `{a:[1,2,3],b:[1,2,3],c:{a:"x"},d:{a:"x"}}`
	first, _ := script.Get(s)
	second, _ := script.Get(s)
	for i := range 2 {
		v := &first.Fields[i].Value
		v.Items[0].N = 9
		v.Items = append(v.Items[:1], num(7), num(8), num(9))
		first.Fields[2+i].Value.Fields[0] = field("z", num(int64(i)))
		if i == 0 && (written(first.Fields[1].Value) != "[1,2,3]" || written(first.Fields[3].Value) != `{a:"x"}`) {
			t.Error(written(first))
		}
	}
	first.Fields = slices.Insert(first.Fields, 0, field("y", num(0)))
	put(t, second, s)
}
