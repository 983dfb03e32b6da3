package provider_test

import (
	"slices"
	"strconv"
	"strings"
	"testing"

	"tmplpipe/api"
	"tmplpipe/provider"
	"tmplpipe/value"
)

// longest is a name that has as many bytes as a name can have.
var longest = strings.Repeat("n", api.MaxName)

// noNames are strings of which none is a name.
var noNames = []string{"", longest + "n", "0", "9a", "_", "_a", ".", "a.b", "a.", ".a", "a ", " a", "a\x00", "a-b", "a\n", "\u00e4", "a\u00e4",
	"\xff", "a\xff", "\u0430", "{{.a}}", strings.Repeat("n", 1<<16)}

func text(s string) api.Value { return api.Value{S: s} }

func list(items ...api.Value) api.Value { return api.Value{Kind: api.List, Items: items} }

func mapOf(fields ...api.Field) api.Value { return api.Value{Kind: api.Map, Fields: fields} }

func field(key string, v api.Value) api.Field { return api.Field{Key: key, Value: v} }

// nest returns v in n lists, or in n maps.
func nest(n int, inMaps bool, v api.Value) api.Value {
	for range n {
		if inMaps {
			v = mapOf(field("m", v))
		} else {
			v = list(v)
		}
	}
	return v
}

// dump writes down all that values consist of.
func dump(values ...api.Value) string {
	var s strings.Builder
	for _, v := range values {
		s.WriteString("(" + strconv.Itoa(v.Kind) + strconv.Quote(v.S) + strconv.FormatInt(v.N, 10) + strconv.FormatBool(v.B) + dump(v.Items...))
		for _, f := range v.Fields {
			s.WriteString(strconv.Quote(f.Key) + dump(f.Value))
		}
		s.WriteString(")")
	}
	return s.String()
}

// create returns a provider that New must create, and that has pulled nothing.
func create(t *testing.T, fields []api.Field, fail []string) *provider.Provider {
	t.Helper()
	p, err := provider.New(fields, fail)
	if p == nil || err != api.OK {
		t.Fatalf("New(%.300s, %.99q) = %v, %v", dump(mapOf(fields...)), fail, p, err)
	}
	pulls(t, p)
	return p
}

// rejected checks that New returns nil and an error.
func rejected(t *testing.T, fields []api.Field, fail []string, want api.Errno) {
	t.Helper()
	if p, err := provider.New(fields, fail); p != nil || err != want {
		t.Fatalf("New(%.300s, %.99q) = %v, %v; want nil, %v", dump(mapOf(fields...)), fail, p, err, want)
	}
}

// get compares the results of Get with what is wanted.
func get(t *testing.T, p *provider.Provider, name string, want api.Value, wantErr api.Errno) {
	t.Helper()
	if got, err := p.Get(name); !value.Equal(got, want) || err != wantErr {
		t.Fatalf("Get(%.99q) = %.300s, %v; want %.300s, %v", name, dump(got), err, dump(want), wantErr)
	}
}

// pulls compares the result of Pulls with what is wanted, twice.
func pulls(t *testing.T, p *provider.Provider, want ...string) {
	t.Helper()
	for range 2 {
		if got := p.Pulls(); !slices.Equal(got, want) {
			t.Fatalf("Pulls() = %.300q, want %.300q", got, want)
		}
	}
}

// faults are values that Check rejects, by the error. They are wrong also at the depth of a field.
func faults() map[api.Errno][]api.Value {
	return map[api.Errno][]api.Value{
		api.ErrNesting:   {nest(api.MaxNest-1, false, text("x")), nest(api.MaxNest-1, true, text("x")), nest(1<<12, false, text("x"))},
		api.ErrType:      {{Kind: 5}, {Kind: -1}, {Kind: 1 << 32, S: "x"}},
		api.ErrArg:       {{Kind: api.Int, S: "x"}, {N: 1}, {Kind: api.Map, B: true}, {Items: []api.Value{{}}}, {Kind: api.List, Fields: []api.Field{{Key: "a"}}}},
		api.ErrName:      {mapOf(field("", text("x"))), mapOf(field("a", text("x")), field("a.b", text("x"))), mapOf(field(longest+"n", text("x")))},
		api.ErrDuplicate: {mapOf(field("a", text("x")), field("a", text("x"))), mapOf(field("a", text("x")), field("b", text("x")), field("a", text("y")))},
	}
}

// samples are valid values of each kind.
func samples() []api.Value {
	return []api.Value{{}, text("x"), text("\xff\x00"), {Kind: api.Int}, {Kind: api.Int, N: -1 << 63}, {Kind: api.Bool}, {Kind: api.Bool, B: true},
		list(), {Kind: api.List, Items: []api.Value{}}, list(text("a"), list(text("b"), text("c")), mapOf(field("d", text("e")))), list(list(), mapOf()),
		mapOf(), {Kind: api.Map, Fields: []api.Field{}}, mapOf(field("z", text("1")), field("a", list(text("2"))), field("m", mapOf(field("k", text("3"))))),
		nest(api.MaxNest-2, false, text("x")), nest(api.MaxNest-2, true, text("x"))}
}

func TestExample(t *testing.T) { // P10.2, P10.3
	p := create(t, []api.Field{field("a", text("x"))}, []string{"b"})
	get(t, p, "b", api.Value{}, api.ErrProvider)
	get(t, p, "c", api.Value{}, api.ErrMissing)
	pulls(t, p, "b", "c")
}

func TestNewOfNothing(t *testing.T) { // P10.1
	beyond, bad := []api.Field{field("0", text("x"))}, []string{"0"}
	for _, fields := range [][]api.Field{nil, {}, beyond[:0]} {
		for _, fail := range [][]string{nil, {}, bad[:0]} {
			p := create(t, fields, fail)
			get(t, p, "a", api.Value{}, api.ErrMissing)
			get(t, p, "0", api.Value{}, api.ErrName)
			pulls(t, p, "a")
		}
	}
}

func TestNewWithOneOfBoth(t *testing.T) { // P10.1, P10.2
	for _, none := range [][]string{nil, {}} {
		p := create(t, []api.Field{field("a", text("x"))}, none)
		get(t, p, "a", text("x"), api.OK)
		get(t, p, "b", api.Value{}, api.ErrMissing)
	}
	for _, none := range [][]api.Field{nil, {}} {
		p := create(t, none, []string{"a"})
		get(t, p, "a", api.Value{}, api.ErrProvider)
		get(t, p, "b", api.Value{}, api.ErrMissing)
	}
}

func TestNewAndEachValue(t *testing.T) { // P10.1, P10.2
	var fields []api.Field
	for i, v := range samples() {
		fields = append(fields, field("k"+strconv.Itoa(i), v))
		p := create(t, []api.Field{field("a", v)}, nil)
		get(t, p, "a", v, api.OK)
		get(t, p, "a", v, api.OK)
		pulls(t, p, "a")
	}
	p := create(t, fields, []string{"b"})
	for _, f := range fields {
		get(t, p, f.Key, f.Value, api.OK)
	}
}

// TestNewRejectsValues puts each faulty value at each place of up to four fields, and at some depth.
func TestNewRejectsValues(t *testing.T) { // P10.1
	for want, values := range faults() {
		for _, v := range values {
			for n := 1; n <= 4; n++ {
				for at := range n {
					fields := []api.Field{}
					for i := range n {
						fields = append(fields, field("k"+strconv.Itoa(i), text("x")))
					}
					fields[at].Value = v
					rejected(t, fields, nil, want)
					rejected(t, fields, []string{"a", "k0"}, want)
					fields[at].Value = list(text("x"), mapOf(field("a", text("x")), field("b", v)), text("x"))
					rejected(t, fields, nil, want)
				}
			}
		}
	}
}

func TestNewRejectsKeys(t *testing.T) { // P10.1
	for _, key := range noNames {
		rejected(t, []api.Field{field(key, text("x"))}, nil, api.ErrName)
		rejected(t, []api.Field{field(key, text("x")), field("a", text("x")), field("b", text("x"))}, nil, api.ErrName)
		rejected(t, []api.Field{field("a", text("x")), field(key, text("x")), field("b", text("x"))}, nil, api.ErrName)
		rejected(t, []api.Field{field("a", text("x")), field("b", text("x")), field(key, text("x"))}, []string{"a"}, api.ErrName)
	}
	create(t, []api.Field{field(longest, text("x")), field(longest[1:], text("y"))}, nil)
}

// TestNewRejectsEqualKeys puts two equal keys at each two places.
func TestNewRejectsEqualKeys(t *testing.T) { // P10.1
	for n := 2; n <= 5; n++ {
		for j := range n {
			for i := range j {
				var fields []api.Field
				for k := range n {
					fields = append(fields, field("k"+strconv.Itoa(k), text("x")))
				}
				create(t, fields, nil)
				fields[j].Key = fields[i].Key
				rejected(t, fields, nil, api.ErrDuplicate)
				rejected(t, fields, []string{"k0"}, api.ErrDuplicate)
			}
		}
	}
	p := create(t, []api.Field{field("a", text("1")), field("A", text("2")), field("aa", mapOf(field("a", text("3"))))}, nil)
	get(t, p, "a", text("1"), api.OK)
	get(t, p, "A", text("2"), api.OK)
}

// TestNewAndNesting nests around MaxNest: the fields are those of a map, so that their values are at depth 2.
func TestNewAndNesting(t *testing.T) { // P10.1
	for n := range api.MaxNest + 3 {
		for _, inMaps := range []bool{false, true} {
			for _, end := range []api.Value{text("x"), list(), mapOf()} {
				v := nest(n, inMaps, end)
				fields := []api.Field{field("a", text("x")), field("b", v), field("c", text("y"))}
				if n+2 > api.MaxNest {
					rejected(t, fields, nil, api.ErrNesting)
					continue
				}
				get(t, create(t, fields, nil), "b", v, api.OK)
			}
		}
	}
	itself := list(text("x"), text("x"))
	itself.Items[1] = itself
	rejected(t, []api.Field{field("a", itself)}, nil, api.ErrNesting)
}

// TestNewRejectsFail puts each string that is no name at each place of up to four failing names.
func TestNewRejectsFail(t *testing.T) { // P10.1
	for _, s := range noNames {
		for n := 1; n <= 4; n++ {
			for at := range n {
				fail := slices.Repeat([]string{"a"}, n)
				fail[at] = s
				rejected(t, nil, fail, api.ErrName)
				rejected(t, []api.Field{field("a", text("x")), field("b", list())}, fail, api.ErrName)
			}
		}
	}
}

// TestNewAndBytesOfFail tries each byte as the first and as another byte of a failing name.
func TestNewAndBytesOfFail(t *testing.T) { // P10.1
	for c := range 256 {
		b := string([]byte{byte(c)})
		isLetter := c >= 'a' && c <= 'z' || c >= 'A' && c <= 'Z'
		for s, isName := range map[string]bool{b: isLetter, b + "x": isLetter, "x" + b: isLetter || c >= '0' && c <= '9' || c == '_'} {
			if !isName {
				rejected(t, nil, []string{s}, api.ErrName)
				continue
			}
			p := create(t, nil, []string{s})
			get(t, p, s, api.Value{}, api.ErrProvider)
			get(t, p, s+"_", api.Value{}, api.ErrMissing)
		}
	}
}

func TestNewAcceptsFail(t *testing.T) { // P10.1, P10.2
	for _, fail := range [][]string{{"a"}, {longest}, {"a", "a"}, {"a", "b", "a", longest, longest, "b"}, {"Z_9", "a", "A"}} {
		for _, fields := range [][]api.Field{nil, {field("a", text("x"))}, {field("c", text("x")), field(longest, list()), field("b", text("y"))}} {
			p := create(t, fields, fail)
			for _, name := range append(fail, fail...) {
				get(t, p, name, api.Value{}, api.ErrProvider)
			}
			get(t, p, "missing", api.Value{}, api.ErrMissing)
			for _, f := range fields {
				if !slices.Contains(fail, f.Key) {
					get(t, p, f.Key, f.Value, api.OK)
				}
			}
		}
	}
}

// TestNewOrderOfErrors combines faults, of which the first one in the order of Check counts, and then the failing names.
func TestNewOrderOfErrors(t *testing.T) { // P10.1
	for err, values := range faults() {
		for other, others := range faults() {
			v, w := values[0], others[0]
			for _, fail := range [][]string{nil, {"a"}, {"0"}, {"a", ""}, {"", "a.b"}} {
				rejected(t, []api.Field{field("a", v), field("b", w)}, fail, err)
				rejected(t, []api.Field{field("b", w), field("a", v)}, fail, other)
				rejected(t, []api.Field{field("a", v), field("", w)}, fail, err)
				rejected(t, []api.Field{field("a", v), field("a", w)}, fail, err)
				rejected(t, []api.Field{field("0", v), field("b", w)}, fail, api.ErrName)
				rejected(t, []api.Field{field("a", text("x")), field("a", v), field("0", w)}, fail, api.ErrDuplicate)
			}
		}
	}
}

// TestNewLikeCheck compares New with Check of the map with the fields.
func TestNewLikeCheck(t *testing.T) { // P10.1
	values := samples()
	for _, faulty := range faults() {
		values = append(values, faulty...)
	}
	for _, v := range values {
		for _, w := range values {
			for _, key := range []string{"a", "b", "0"} {
				fields := []api.Field{field("b", v), field(key, w)}
				if err := value.Check(mapOf(fields...)); err != api.OK {
					rejected(t, fields, []string{"c"}, err)
					rejected(t, fields, []string{"c", "c c"}, err)
				} else {
					create(t, fields, []string{"c"})
					rejected(t, fields, []string{"c", "c c"}, api.ErrName)
				}
			}
		}
	}
}

func TestNewOfManyFields(t *testing.T) { // P10.1 to P10.4
	const n = 1 << 16
	var fields []api.Field
	var fail, names []string
	for i := range n {
		s := strconv.Itoa(i)
		fields = append(fields, field("f"+s, api.Value{Kind: api.Int, N: int64(i)}))
		fail = append(fail, "x"+s)
		names = append(names, "x"+s, "m"+s, "f"+s)
	}
	p := create(t, fields, fail)
	for range 2 {
		for i := range n {
			get(t, p, names[3*i], api.Value{}, api.ErrProvider)
			get(t, p, names[3*i+1], api.Value{}, api.ErrMissing)
			get(t, p, names[3*i+2], fields[i].Value, api.OK)
		}
		pulls(t, p, names...)
	}
	fields = append(fields, field("f7", text("x")))
	rejected(t, fields, fail, api.ErrDuplicate)
	rejected(t, fields[:n], append(fail, ""), api.ErrName)
}
