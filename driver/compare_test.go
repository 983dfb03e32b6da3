package driver_test

import (
	"math"
	"slices"
	"strconv"
	"strings"
	"testing"

	"tmplpipe/api"
	"tmplpipe/compile"
	"tmplpipe/driver"
)

// TestAllTemplates has all templates of up to some pieces, with several sizes and schedules. Those that do not compile
// are refused for what Compile returns.
func TestAllTemplates(t *testing.T) { // P21.1 to P21.6
	sizes := [][2]int{{1, 1}, {2, 3}, {3, 2}, {4, 5}, {7, 1}, {1, 200}, {100, 3}, {100, 200}}
	for _, set := range []struct {
		most   int
		pieces []string
	}{
		{4, []string{"y", "{{.s}}", "{{flush}}", "<b '", "{{.x}}"}},
		{5, []string{"yz", "{{range .l}}", "{{.}}", "{{flush}}", "{{end}}"}},
		{4, []string{"{{if .yes}}", "{{call f}}", "{{define f}}", "{{else}}", "xy{{.n}}", "{{end}}", "{{flush}}"}},
	} {
		count := map[api.Errno]int{}
		var more func(src string, left int)
		more = func(src string, left int) {
			at, err := 0, api.OK
			if _, at, err = compile.Compile(src); err != api.OK {
				refused(t, driver.Config{Source: src, Capacity: 1, Most: 1}, at, err)
				count[err]++
			}
			for i := range sizes {
				if err != api.OK || (i+len(src))%3 > 0 { // enough of them, since the length of the source varies
					continue
				}
				q := paired(t, config(src, sizes[i][0], sizes[i][1]))
				schedule := [][]int{{math.MaxInt}, {1}, {0, 2}, {3, 0, 0, 5, 1}}[(i+len(src))%4]
				for err = api.ErrBlocked; err == api.ErrBlocked; {
					err = q.feed(t, schedule...)
				}
				count[err]++
				err = api.OK
			}
			if left > 0 {
				for _, p := range set.pieces {
					more(src+p, left-1)
				}
			}
		}
		more("", set.most)
		if count[api.OK] < 300 || count[api.ErrBlocked]+count[api.ErrWrite] > 0 || count[api.ErrNesting]+count[api.ErrJoin] < 30 {
			t.Error(set.pieces, count)
		}
	}
}

// TestAllSchedules has all schedules of up to some outcomes, also with failures, cut at each place.
func TestAllSchedules(t *testing.T) { // P21.3, P21.4, P21.6
	outcomes := []int{-1, 0, 1, 4, 7}
	for _, src := range []string{"", "a", "abc{{flush}}d", "ab{{.x}}c", "{{.e}}{{flush}}abcde"} {
		count := map[api.Errno]int{}
		turn := 0
		var more func(schedule []int, left int)
		more = func(schedule []int, left int) {
			turn++
			size := [][2]int{{1, 1}, {2, 1}, {2, 2}, {3, 2}, {9, 9}, {1, 9}, {9, 1}}[turn%7]
			c := config(src, size[0], size[1])
			whole := paired(t, c)
			count[whole.feed(t, schedule...)]++
			for cut := range len(schedule) {
				d := opened(t, c)
				d.Feed(schedule[:cut]...)
				d.Feed(schedule[cut:]...)
				equal(t, d.Report(), whole.d.report)
			}
			if left > 0 {
				for _, outcome := range outcomes {
					more(append(schedule[:len(schedule):len(schedule)], outcome), left-1)
				}
			}
		}
		more(nil, 5)
		if count[api.ErrWrite] < 500 || count[api.ErrBlocked] < 50 || count[api.OK]+count[api.ErrMissing] < 20 {
			t.Error(src, count)
		}
	}
}

// numbers are irregular, but the same each time.
type numbers uint64

func (n *numbers) below(most int) int {
	*n = *n*6364136223846793005 + 1442695040888963407
	return int(uint64(*n)>>33) % most
}

// schedule returns an irregular schedule, in which a failure is one of many outcomes.
func (n *numbers) schedule(failures int) []int {
	schedule := make([]int, n.below(8))
	for i := range schedule {
		schedule[i] = []int{0, 1 + n.below(3), n.below(20), n.below(200)}[n.below(4)]
		if n.below(failures) == 0 {
			schedule[i] = -1 - n.below(3)
		}
	}
	return schedule
}

// object returns an irregular map: t and u are mostly bools, s and n are text, k and l are lists, and m is a map.
func (n *numbers) object(depth int) object {
	o := object{"t": n.below(2) == 0, "u": n.below(3) > 0, "s": []string{"", "<b>", "'/ ", "\xff\n", strings.Repeat("&", n.below(40))}[n.below(5)], "n": n.below(2000) - 1000}
	if depth > 0 {
		o["m"] = n.object(depth - 1)
		o["k"] = n.list(depth-1, 5)
		o["l"] = n.list(depth-1, 3)
	}
	if n.below(50) == 0 {
		delete(o, []string{"t", "u", "s", "n", "k", "l", "m"}[n.below(7)])
	}
	return o
}

// list returns an irregular list of maps, with less than most items.
func (n *numbers) list(depth, most int) list {
	l := list{}
	for range n.below(most) {
		l = append(l, n.object(depth))
	}
	return l
}

// nodes returns the source of irregular nodes, with calls of the definitions d0, d1, and so on.
func (n *numbers) nodes(depth, definitions int) string {
	var b strings.Builder
	for range n.below(6) {
		kind := n.below(14)
		if depth == 0 {
			kind %= 8
		}
		print := []string{"{{.s}}", "{{.n}}", "{{.m.s}}", "{{.m.m.n}}"}[n.below(4)]
		switch kind {
		case 0, 1:
			b.WriteString([]string{"x", "<p>y</p>", "}}", "<!-- z -->"}[n.below(4)])
		case 2, 3:
			b.WriteString(print)
		case 4:
			b.WriteString([]string{"<a href='" + print + "'>", "<b title=\"{{if .t}}" + print + "{{else}}{{flush}}{{end}}\">", "<style>'{{range .l}}" + print + "{{end}}'</style>"}[n.below(3)])
		case 5:
			b.WriteString("{{flush}}")
		case 6, 7:
			if definitions > 0 {
				b.WriteString("{{call d" + strconv.Itoa(n.below(definitions)) + []string{"", " .", " .m", " .m.m"}[n.below(4)] + "}}")
			}
		case 8, 9:
			b.WriteString("{{if ." + []string{"t", "u", "m.t"}[n.below(3)] + "}}" + n.nodes(depth-1, definitions) + "{{end}}")
		case 10, 11:
			b.WriteString("{{if .u}}" + n.nodes(depth-1, definitions) + "{{else}}" + n.nodes(depth-1, definitions) + "{{end}}")
		case 12, 13:
			b.WriteString("{{range ." + []string{"k", "l", "m.k"}[n.below(3)] + "}}" + n.nodes(depth-1, definitions) + "{{end}}")
		}
	}
	return b.String()
}

// template returns the source of an irregular template, with definitions among the main nodes. Some have a fault.
func (n *numbers) template() string {
	var b strings.Builder
	definitions := n.below(4)
	for i := range definitions {
		b.WriteString(n.nodes(n.below(3), definitions))
		b.WriteString("{{define d" + strconv.Itoa(i) + "}}" + n.nodes(n.below(3), definitions) + "{{end}}")
	}
	b.WriteString(n.nodes(n.below(4), definitions))
	if n.below(10) == 0 {
		b.WriteString([]string{"{{", "{{x}}", "{{.1}}", "{{end}}", "{{if .t}}", "{{define d0}}{{end}}", "{{call d9}}", "<b ", "<!--", "<{{.s}}"}[n.below(10)])
	}
	b.WriteString(n.nodes(n.below(2), definitions))
	return b.String()
}

// configuration returns an irregular configuration. Some have no fields, or sizes that are not accepted.
func (n *numbers) configuration() driver.Config {
	c := driver.Config{Source: n.template(), Fields: fields(n.object(3)), Capacity: 1 + n.below(40), Most: 1 + n.below(40)}
	switch n.below(40) {
	case 0:
		c.Fail = []string{"none", "s"}
	case 1:
		c.Fail = []string{"l", "m", "l"}
	case 2:
		c.Fields = nil
	case 3:
		c.Capacity = []int{0, -1, 65537}[n.below(3)]
	case 4:
		c.Most = []int{0, -1, 65537}[n.below(3)]
	case 5:
		c.Fields = append(c.Fields, c.Fields[n.below(len(c.Fields))])
	}
	return c
}

// TestIrregularTemplates has irregular templates with irregular data, sizes and schedules in irregular parts.
func TestIrregularTemplates(t *testing.T) { // P21.1 to P21.6
	n := numbers(21)
	count := map[api.Errno]int{}
	for i := range 3000 {
		c := n.configuration()
		if at, err := driver.Check(c); err != api.OK {
			refused(t, c, at, err)
			count[err]++
			continue
		}
		failures := []int{15, 200, math.MaxInt}[i%3]
		q := paired(t, c)
		err := api.ErrBlocked
		for left := 3 + n.below(300); left > 0 && err == api.ErrBlocked; left-- {
			err = q.feed(t, n.schedule(failures)...)
		}
		for range 2 {
			if again := q.feed(t); again != err {
				t.Fatal(again, err)
			}
		}
		q.feed(t, n.schedule(5)...)
		equal(t, ran(t, c, q.fed...), q.d.report)
		d := opened(t, c)
		for rest := slices.Clone(q.fed); len(rest) > 0; {
			part := min(len(rest), n.below(50))
			d.Feed(rest[:part]...)
			rest = rest[part:]
		}
		if len(q.fed) > 0 {
			equal(t, d.Report(), q.d.report)
		}
		count[err]++
	}
	for _, err := range []api.Errno{
		api.OK, api.ErrBlocked, api.ErrWrite, api.ErrMissing, api.ErrDepth, api.ErrProvider,
		api.ErrSyntax, api.ErrTruncated, api.ErrName, api.ErrNesting, api.ErrJoin, api.ErrContext, api.ErrDuplicate, api.ErrRange,
	} {
		if count[err] < 10 {
			t.Error(err, count)
		}
	}
}
