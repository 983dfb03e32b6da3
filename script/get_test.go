package script_test

import (
	"fmt"
	"math"
	"strings"
	"testing"

	"tmplpipe/api"
	"tmplpipe/script"
)

// TestGetRefused has texts that are no literals. None of them is one within a list or a map either.
func TestGetRefused(t *testing.T) { // P22.1
	long := strings.Repeat("k", api.MaxName+1)
	for _, s := range []string{
		"", " ", "\n", "#", "a", "x", "nil", "null", "()", "'a'", "`a`", "\x00", "\xff", "\u00e4", ".", ":", ",", "-", "+", "\\", "--", "1 2", "1\n", "\t1",
		`"`, `"a`, `a"`, `""a`, `"a""`, `"a""b"`, `"a"b"`, `"""`, `"\"`, `"\\\"`, `" "x`, `"a\`, `"a\x`, `"a\x1`, `"a\x1"`, `"a\x"`, `"\x0g"`,
		"\"a\nb\"", "\"\x00\"", "\"\x1f\"", "\"\t\"", "\"\r\"", "\"\x7f\"", "\"\x80\"", "\"\xff\"", "\"\u00e4\"", "\"\u20ac\"", "\"\u0141\"",
		`"\a"`, `"\b"`, `"\f"`, `"\r"`, `"\t"`, `"\v"`, `"\0"`, `"\000"`, `"\012"`, `"\177"`, `"\'"`, `"\N"`, `"\ "`, `"\/"`, `"\u00e4"`, `"\u0041"`, `"\U000000ff"`, `"\X1f"`,
		`"\x0a"`, `"\x0A"`, `"\x1F"`, `"\xFF"`, `"\xfF"`, `"\xFf"`, `"\xAb"`, `"\x20"`, `"\x22"`, `"\x41"`, `"\x5c"`, `"\x7e"`, `"\x 1"`, `"\x+1"`, `"\x-1"`, `"\x1_"`,
		"+1", "-0", "00", "01", "-01", "-00", "+0", "1-", "1+1", "1-2", "--1", "1.0", "1.", ".5", "1e3", "0x1", "0b1", "0o7", "1_000", "1,", "1]", "1}", "1a", "a1", "\u0661", "- 1",
		"9223372036854775808", "-9223372036854775809", "9223372036854775817", "19223372036854775807", "99999999999999999999999999999", "-99999999999999999999", "18446744073709551616", "18446744073709551617",
		"True", "TRUE", "False", "tru", "rue", "truee", "ttrue", "fals", "falsee", "t", "f", "true,", "true false", "truefalse", "true1", `true""`, "yes", "T", "F",
		"[", "]", "[[", "[]]", "[[]", "][", "[}", "[)", "[,]", "[,1]", "[1,]", "[1,,2]", "[,,]", "[1 ,2]", "[1, 2]", "[ ]", "[ 1]", "[1 ]", "[1;2]", "[1 2]", "[1", "1]", "[1,", "[1,2", `["a"`, `["a""b"]`, "[1]2", "[1][2]", "[a:1]", "[a]", "[1,]1", "[[1]",
		"[1}", "{]", "{[}", "{[]", "{a:[1}]", "[{a:1]}", "[{]}", "{a:[}", "{a:1]", "{a:{b:1}", "{a:{b:1}}}", "[{a:1}", "[{a:1]",
		"{", "}", "{{", "{}}", "}{", "{,}", "{:}", "{a}", "{a:}", "{:1}", "{a:1,}", "{,a:1}", "{a:1,,b:2}", "{a:1", "{a", "{a:", "{a:1,", "{a:1,b", "{a:1,b:", "{a:1,b}", "{a:1,b:}", "{a:1;b:2}", "{a:1b:2}", "{a::1}", "{a:1:2}", "{1}", "{[]}", "{{}}", `{"x"}`,
		"{ }", "{ a:1}", "{a :1}", "{a: 1}", "{a:1 }", "{a:1, b:2}", "{a:1 ,b:2}", "{a=1}", "{a:1}{b:2}", "{a:1}1", "{a:1},", "{}1",
		`{"a":1}`, "{'a':1}", "{1:1}", "{_a:1}", "{-:1}", "{a-b:1}", "{a.b:1}", "{a b:1}", "{\u00e4:1}", "{a\xff:1}", "{a\n:1}", "{" + long + ":1}", "{a,b:1}", "{a}:1}", "{[a]:1}", "{true}", "{a:b}",
		"{a:1,a:1}", "{a:1,b:2,a:1}", "{a:1,a:2}", "[{a:1,a:1}]", "{x:{a:1,a:1}}", "{a:[],a:[]}",
	} {
		if isLiteral(s) {
			t.Errorf("%q", s) // a fault in the tests
		}
		notGot(t, s)
		for _, around := range []string{"[%s]", "{a:%s}", "[1,%s]", "[%s,1]", "{a:1,b:%s}", "{a:%s,b:1}", `["",[],{},{a:{a:[%s]}}]`} {
			got(t, strings.Replace(around, "%s", s, 1)) // some are literals now, as 1,2 is within a list
		}
	}
}

// TestGetBytes has strings with each byte, with each escape, and with each pair of digits.
func TestGetBytes(t *testing.T) { // P22.1, P22.4
	for c := range 256 {
		s := string([]byte{byte(c)})
		got(t, s)
		got(t, `"`+s+`"`)
		got(t, `"\`+s+`"`)
		got(t, `"\`+s)
		got(t, `"a\x1`+s+`"`)
		got(t, `"\x`+s+`f"`)
		got(t, "1"+s)
		got(t, s+"1")
		got(t, "[1"+s+"2]")
		got(t, "{a"+s+":1}")
		got(t, "{"+s+":1}")
		got(t, "{a:1"+s+"}")
		got(t, fmt.Sprintf(`"\x%02x"`, c))
		got(t, fmt.Sprintf(`"\x%02X"`, c))
		got(t, fmt.Sprintf(`"\%03o"`, c))
		got(t, fmt.Sprintf(`"\u%04x"`, c))
		for d := range 256 {
			got(t, `"\x`+s+string([]byte{byte(d)})+`"`)
			got(t, `"`+s+string([]byte{byte(d)})+`"`)
		}
	}
}

// TestGetPrefixes has literals with something behind them, before them, or missing at their ends.
func TestGetPrefixes(t *testing.T) { // P22.1
	for _, l := range literals() {
		for i := range len(l.s) {
			if got(t, l.s[i:]); l.v.Kind != api.Int {
				notGot(t, l.s[:i])
			}
			got(t, l.s[:i])
		}
		for _, more := range []string{" ", "\n", "\x00", ",", "]", "}", ":", "[", "{", "#", "\\"} {
			notGot(t, l.s+more)
			notGot(t, more+l.s)
		}
		for _, m := range literals() {
			got(t, l.s+m.s)
			notGot(t, l.s+","+m.s)
			notGot(t, l.s+" "+m.s)
		}
	}
}

// TestGetChanged changes each byte of literals, removes it, and puts bytes before it.
func TestGetChanged(t *testing.T) { // P22.1, P22.4
	accepted := 0
	for _, s := range []string{`{a:"x",b:[1,true]}`, `["a\"b\\\n\x00 ~",-120,{},[]]`, `{k1:{k2:{k_3:false}},x:[[0],"\xff"]}`, "9223372036854775807", "-9223372036854775808", "[true,false,{a:1,b:1}]"} {
		got(t, s)
		for i := range len(s) {
			got(t, s[:i]+s[i+1:])
			for j := range i {
				got(t, s[:j]+s[i:])
				got(t, s[:i]+s[j:])
			}
			for c := range 256 {
				for _, changed := range []string{s[:i] + string([]byte{byte(c)}) + s[i:], s[:i] + string([]byte{byte(c)}) + s[i+1:]} {
					if got(t, changed); isLiteral(changed) {
						accepted++
					}
				}
			}
		}
	}
	if accepted < 3000 {
		t.Error(accepted)
	}
}

// TestGetAllTexts has all texts of up to some pieces.
func TestGetAllTexts(t *testing.T) { // P22.1, P22.4
	for _, set := range []struct {
		most   int
		pieces []string
	}{
		{6, []string{`"`, `\`, "n", "x0", "a", " "}},
		{6, []string{"[", "]", ",", "1", "0", "-"}},
		{5, []string{"{", "}", "a:", "b:", ",", "1", `""`, " "}},
		{5, []string{"{a:", ",b:", ",a:", "}", "[]", "{}", "true"}},
		{5, []string{"[", "]", "{", "}", "{a:", ",", "true", "b"}},
		{6, []string{"[", "],", "]", "{x:", "},y:", "}", `"\n"`}},
		{5, []string{"t", "rue", "false", "[", ",", "]", "-1", "\n"}},
	} {
		accepted := 0
		var more func(s string, left int)
		more = func(s string, left int) {
			if got(t, s); isLiteral(s) {
				accepted++
			}
			if left > 0 {
				for _, p := range set.pieces {
					more(s+p, left-1)
				}
			}
		}
		more("", set.most)
		if accepted < 10 {
			t.Error(set.pieces, accepted)
		}
	}
}

// TestGetDeep has very deep and very long texts.
func TestGetDeep(t *testing.T) { // P22.1, P1
	for _, n := range []int{31, 32, 33, 40, 1000, 1 << 18} {
		for _, s := range []string{
			strings.Repeat("[", n), strings.Repeat("]", n), strings.Repeat("{", n), strings.Repeat("}", n), strings.Repeat("{a:", n), strings.Repeat("[{a:", n), strings.Repeat("[1,", n),
			strings.Repeat("[", n) + strings.Repeat("]", n), strings.Repeat("{a:", n) + "1" + strings.Repeat("}", n), strings.Repeat("[", n) + "1" + strings.Repeat("]", n), strings.Repeat("[[],", n) + "1" + strings.Repeat("]", n),
			strings.Repeat("9", n), strings.Repeat("-", n), strings.Repeat("0", n), `"` + strings.Repeat("a", n), `"` + strings.Repeat(`\`, n|1) + `"`, strings.Repeat(`"`, n|1), strings.Repeat("a", n), strings.Repeat(":", n), strings.Repeat(",", n),
			strings.Repeat("true", n), "[" + strings.Repeat(",", n) + "]", "{" + strings.Repeat("k", n) + ":1}", "[" + strings.Repeat("1,", n) + "]",
		} {
			if n > 1000 {
				notGot(t, s)
			} else {
				got(t, s)
			}
		}
		put(t, str(strings.Repeat("a\n", n)), `"`+strings.Repeat(`a\n`, n)+`"`)
		put(t, str(strings.Repeat("\xff", n)), `"`+strings.Repeat(`\xff`, n)+`"`)
		put(t, list(make([]api.Value, n)...), "["+strings.Repeat(`"",`, n-1)+`""]`)
	}
}

// TestGetDeepest has texts that are so deep that no parser can follow them.
func TestGetDeepest(t *testing.T) { // P22.1, P1
	for _, s := range []string{strings.Repeat("[", 1<<24), strings.Repeat("{a:", 1<<23), strings.Repeat("[1,[],", 1<<22), strings.Repeat("{a:[{b:{}},", 1<<21)} {
		notGot(t, s)
		says(t, script.New(), "data x "+s, "error 5", "source "+s, "error 5", "feed "+s, "error 5", "size 1 "+s, "error 5")
	}
}

// TestGetWide has lists and maps of many elements, and many of them within one another.
func TestGetWide(t *testing.T) { // P22.1, P22.4
	for _, n := range []int{1, 2, 1000, 5000} {
		items, fields := make([]api.Value, n), make([]api.Field, n)
		for i := range n {
			items[i] = list(num(int64(i)), mapOf(field("a", boolean(i%2 == 0))))
			fields[i] = field(fmt.Sprint("k", i), items[i])
		}
		put(t, list(items...), written(list(items...)))
		put(t, mapOf(fields...), written(mapOf(fields...)))
		s := written(mapOf(fields...))
		notGot(t, s[:len(s)-1]+",k0:1}")
		notGot(t, s[:len(s)-1]+fmt.Sprintf(",k%d:1}", n-1))
		put(t, mapOf(append(fields, field("k", num(1)))...), s[:len(s)-1]+",k:1}")
	}
}

// TestAllValues has all values of up to three levels with some simple values: different ones have different literals.
func TestAllValues(t *testing.T) { // P22.4
	simple := []api.Value{str(""), str("a"), str(","), num(0), num(1), num(-1), boolean(true), boolean(false), str("true"), str("1"), str("[]"), num(math.MaxInt64), num(11)}
	level := append(simple, list(), mapOf())
	for range 2 {
		next := append(simple[:len(simple):len(simple)], list(), mapOf())
		for i, v := range level {
			next = append(next, list(v), mapOf(field("a", v)), mapOf(field("b", v)), list(v, v, v))
			for _, w := range level[:min(len(level), 25)] {
				next = append(next, list(v, w), mapOf(field("a", v), field("b", w)), mapOf(field("b", v), field("a", w)))
				if i >= 25 {
					next = append(next, list(w, v))
				}
			}
		}
		level = next
	}
	seen := map[string]bool{}
	for _, v := range level {
		s := written(v)
		if seen[s] {
			t.Fatalf("%s for two values", s)
		}
		seen[s] = true
		put(t, v, s)
	}
	if len(seen) < 50000 {
		t.Error(len(seen))
	}
}

// TestGetAgain checks that the results depend on the argument only.
func TestGetAgain(t *testing.T) { // rule 7
	for range 2 {
		for _, l := range literals() {
			notGot(t, "["+l.s)
			put(t, l.v, l.s)
			notPut(t, api.Value{Kind: 9}, api.ErrType)
			if s, _ := script.Put(l.v); s != l.s {
				t.Error(s)
			}
		}
	}
}
