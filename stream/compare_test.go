package stream_test

import (
	"math"
	"slices"
	"strconv"
	"strings"
	"testing"

	"tmplpipe/api"
	"tmplpipe/compile"
	"tmplpipe/provider"
)

// sampled returns a provider of the sample.
func sampled() *provider.Provider { return provided(sample(), "bad") }

// repeated extends schedules by the same outcomes again and again.
func repeated(outcomes ...int) func() []int { return func() []int { return outcomes } }

// none extends no schedule.
func none() []int { return nil }

// sizes are some capacities of ring buffers and of chunks.
func sizes() [][2]int {
	var all [][2]int
	for _, capacity := range []int{1, 2, 3, 4, 7, 100} {
		for _, most := range []int{1, 2, 3, 5, 200} {
			all = append(all, [2]int{capacity, most})
		}
	}
	return all
}

// TestAllTemplates has all templates of up to some pieces, with several sizes and schedules.
func TestAllTemplates(t *testing.T) { // P20.2, P20.4 to P20.7
	for _, set := range []struct {
		most   int
		pieces []string
	}{
		{4, []string{"y", "{{.s}}", "{{flush}}", "{{.e}}", "{{.x}}"}},
		{5, []string{"yz", "{{range .l}}", "{{.}}", "{{flush}}", "{{end}}"}},
		{5, []string{"{{if .yes}}", "{{call f}}", "{{define f}}", "{{flush}}", "xy{{.n}}", "{{end}}"}},
	} {
		count := map[api.Errno]int{}
		var more func(src string, left int)
		more = func(src string, left int) {
			if _, _, err := compile.Compile(src); err == api.OK {
				for i, size := range sizes() {
					if (i+len(src))%3 > 0 { // enough of them, since the length of the source varies
						continue
					}
					schedule := [][]int{{math.MaxInt}, {1}, {0, 2}, {3, 0, 0, 5, 1}}[(i+len(src))%4]
					count[pairedTemplate(t, src, sampled, size[0], size[1]).finish(t, repeated(schedule...))]++
				}
			}
			if left > 0 {
				for _, p := range set.pieces {
					more(src+p, left-1)
				}
			}
		}
		more("", set.most)
		if count[api.ErrState] < 1000 || count[api.ErrBlocked]+count[api.ErrWrite] > 0 {
			t.Error(set.pieces, count)
		}
	}
}

// TestAllSchedules has all schedules of up to some outcomes, also with failures.
func TestAllSchedules(t *testing.T) { // P20.2, P20.4 to P20.7
	outcomes := []int{-1, 0, 1, 4, 7}
	for _, src := range []string{"", "a", "abc{{flush}}d", "ab{{.x}}c", "{{.e}}{{flush}}abcde"} {
		count := map[api.Errno]int{}
		turn := 0
		var more func(schedule []int, left int)
		more = func(schedule []int, left int) {
			for range 2 {
				turn++
				size := [][2]int{{1, 1}, {2, 1}, {2, 2}, {3, 2}, {9, 9}, {1, 9}, {9, 1}}[turn%7]
				count[pairedTemplate(t, src, sampled, size[0], size[1], schedule...).finish(t, none)]++
			}
			if left > 0 {
				for _, outcome := range outcomes {
					more(append(schedule[:len(schedule):len(schedule)], outcome), left-1)
				}
			}
		}
		more(nil, 5)
		if count[api.ErrWrite] < 1000 || count[api.ErrBlocked] < 100 || count[api.ErrState]+count[api.ErrMissing] < 40 {
			t.Error(src, count)
		}
	}
}

// TestShortCode has all code of up to four instructions before a halt, most of which no template has.
func TestShortCode(t *testing.T) { // P20.2, P20.4 to P20.7
	instructions := strings.Split("text ab;text ;flush;halt;ret;print s;print x;range l 3;next 0;call 2;jump 4", ";")
	count := map[api.Errno]int{}
	var more func(listing string, left int)
	more = func(listing string, left int) {
		code := assemble(listing + "halt")
		if _, err := compile.Check(code); err == api.OK {
			for i, size := range [][2]int{{1, 1}, {4, 3}} {
				schedule := [][]int{{math.MaxInt}, {5}, {0, 2}}[(i+len(listing))%3]
				count[paired(t, code, sampled, size[0], size[1]).finish(t, repeated(schedule...))]++
			}
		}
		if left > 0 {
			for _, ins := range instructions {
				more(listing+ins+";", left-1)
			}
		}
	}
	more("", 4)
	if count[api.ErrState] < 1000 || count[api.ErrMissing] < 1000 {
		t.Error(count)
	}
}

// numbers are irregular, but the same each time.
type numbers uint64

func (n *numbers) below(most int) int {
	*n = *n*6364136223846793005 + 1442695040888963407
	return int(uint64(*n)>>33) % most
}

// schedule returns an irregular schedule, in which a failure is one of many outcomes.
func (n *numbers) schedule(failures int) []int {
	schedule := make([]int, n.below(8))
	for i := range schedule {
		switch n.below(5) {
		case 0:
			schedule[i] = 0
		case 1:
			schedule[i] = 1 + n.below(3)
		case 2:
			schedule[i] = n.below(20)
		default:
			schedule[i] = n.below(200)
		}
		if n.below(failures) == 0 {
			schedule[i] = -1 - n.below(3)
		}
	}
	return schedule
}

// object returns an irregular map: t and u are mostly bools, s and n are text, k and l are lists, and m is a map.
func (n *numbers) object(depth int) object {
	o := object{"t": n.below(2) == 0, "u": n.below(3) > 0, "s": []string{"", "<b>", "'/ ", "\xff\n", strings.Repeat("&", n.below(40))}[n.below(5)], "n": n.below(2000) - 1000}
	if depth > 0 {
		o["m"] = n.object(depth - 1)
		o["k"] = n.list(depth-1, 5)
		o["l"] = n.list(depth-1, 3)
	}
	if n.below(50) == 0 {
		delete(o, []string{"t", "u", "s", "n", "k", "l", "m"}[n.below(7)])
	}
	return o
}

// list returns an irregular list of maps, with less than most items.
func (n *numbers) list(depth, most int) list {
	l := list{}
	for range n.below(most) {
		l = append(l, n.object(depth))
	}
	return l
}

// nodes returns the source of irregular nodes, with calls of the definitions d0, d1, and so on.
func (n *numbers) nodes(depth, definitions int) string {
	var b strings.Builder
	for range n.below(6) {
		kind := n.below(14)
		if depth == 0 {
			kind %= 8
		}
		print := []string{"{{.s}}", "{{.n}}", "{{.m.s}}", "{{.m.m.n}}"}[n.below(4)]
		switch kind {
		case 0, 1:
			b.WriteString([]string{"x", "<p>y</p>", "}}", "<!-- z -->"}[n.below(4)])
		case 2, 3:
			b.WriteString(print)
		case 4:
			b.WriteString([]string{"<a href='" + print + "'>", "<b title=\"{{if .t}}" + print + "{{else}}{{flush}}{{end}}\">", "<style>'{{range .l}}" + print + "{{end}}'</style>"}[n.below(3)])
		case 5:
			b.WriteString("{{flush}}")
		case 6, 7:
			if definitions > 0 {
				b.WriteString("{{call d" + strconv.Itoa(n.below(definitions)) + []string{"", " .", " .m", " .m.m"}[n.below(4)] + "}}")
			}
		case 8, 9:
			b.WriteString("{{if ." + []string{"t", "u", "m.t"}[n.below(3)] + "}}" + n.nodes(depth-1, definitions) + "{{end}}")
		case 10, 11:
			b.WriteString("{{if .u}}" + n.nodes(depth-1, definitions) + "{{else}}" + n.nodes(depth-1, definitions) + "{{end}}")
		case 12, 13:
			b.WriteString("{{range ." + []string{"k", "l", "m.k"}[n.below(3)] + "}}" + n.nodes(depth-1, definitions) + "{{end}}")
		}
	}
	return b.String()
}

// template returns the source of an irregular template, with definitions among the main nodes.
func (n *numbers) template() string {
	var b strings.Builder
	definitions := n.below(4)
	for i := range definitions {
		b.WriteString(n.nodes(n.below(3), definitions))
		b.WriteString("{{define d" + strconv.Itoa(i) + "}}" + n.nodes(n.below(3), definitions) + "{{end}}")
	}
	b.WriteString(n.nodes(n.below(4), definitions))
	return b.String()
}

// TestIrregularTemplates has irregular templates with irregular data, sizes and schedules.
func TestIrregularTemplates(t *testing.T) { // P20.2, P20.4 to P20.7
	n := numbers(20)
	count := map[api.Errno]int{}
	for i := range 2000 {
		src, data := n.template(), n.object(3)
		failing := []string{"none", "s", "l", "m"}[max(0, n.below(30)-26)]
		capacity, most := 1+n.below(40), 1+n.below(40)
		failures := []int{15, 200, 100000}[i%3]
		q := pairedTemplate(t, src, func() *provider.Provider { return provided(data, failing) }, capacity, most, n.schedule(failures)...)
		left := 3 + n.below(300)
		err := q.finish(t, func() []int {
			if left--; left == 0 {
				return nil
			}
			return slices.Concat([]int{0}, n.schedule(failures))
		})
		count[err]++
	}
	for _, err := range []api.Errno{api.ErrState, api.ErrBlocked, api.ErrWrite, api.ErrMissing, api.ErrDepth, api.ErrProvider} {
		if count[err] < 20 {
			t.Error(err, count)
		}
	}
}
