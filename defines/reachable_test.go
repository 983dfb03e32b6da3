package defines_test

import (
	"slices"
	"strconv"
	"strings"
	"testing"

	"tmplpipe/defines"
)

// reaches checks the reachable names of a template, for several offsets of its nodes.
func reaches(t *testing.T, src, want string) {
	t.Helper()
	for _, change := range offsets() {
		l := parsed(t, src)
		changeOffsets(l, change)
		if got := defines.Reachable(l); !slices.Equal(got, strings.Fields(want)) {
			t.Fatalf("Reachable of %.900q = %.900q; want %.900q", src, got, want)
		}
	}
}

func TestReachableExample(t *testing.T) { // P14.3
	reaches(t, "{{call f}}{{define f}}{{call g}}{{end}}{{define g}}{{end}}{{define h}}{{end}}", "f g")
}

func TestReachable(t *testing.T) { // P14.3
	for src, want := range map[string]string{
		// without calls, without definitions, and with neither
		"": "", "f{{.f}}{{if .f}}f{{end}}": "", "{{call f}}": "", "{{call f}}{{if .}}{{call g}}{{else}}{{call h}}{{end}}": "", "{{define f}}{{end}}": "", "f{{.f}}{{define f}}f{{.f}}{{end}}{{define g}}{{end}}": "",
		// called in the main nodes, before and behind the definition, once and several times
		"{{call f}}{{define f}}{{end}}": "f", "{{define f}}{{end}}{{call f}}": "f", "{{call f .}}{{define f}}{{end}}": "f", "{{call f .a.b}}{{define f}}{{end}}": "f", "{{call f}}{{call f}}{{define f}}{{end}}{{call f .a}}": "f",
		"{{call f}}{{define f}}{{end}}{{define g}}{{end}}": "f", "{{call g}}{{define f}}{{end}}{{define g}}{{end}}": "g", "{{define f}}{{end}}{{call g}}{{define g}}{{end}}{{call f}}": "f g",
		// chains, in each order of the definitions
		"{{call a}}{{define a}}{{call b}}{{end}}{{define b}}{{call c}}{{end}}{{define c}}{{end}}": "a b c", "{{define c}}{{end}}{{define b}}{{call c}}{{end}}{{define a}}{{call b}}{{end}}{{call a}}": "a b c",
		"{{call b}}{{define a}}{{call b}}{{end}}{{define b}}{{call c}}{{end}}{{define c}}{{end}}": "b c", "{{call c}}{{define a}}{{call b}}{{end}}{{define b}}{{call c}}{{end}}{{define c}}{{end}}": "c",
		"{{call c}}{{define c}}{{call b}}{{end}}{{define a}}{{end}}{{define b}}{{call a}}{{end}}": "a b c", "{{define b}}{{call a}}{{end}}{{define c}}{{call b}}{{end}}{{call c}}{{define a}}{{end}}": "a b c",
		// circles, with and without a call from outside, and calls of itself
		"{{call a}}{{define a}}{{call b}}{{end}}{{define b}}{{call c}}{{end}}{{define c}}{{call a}}{{end}}": "a b c", "{{call b}}{{define a}}{{call b}}{{end}}{{define b}}{{call c}}{{end}}{{define c}}{{call a}}{{end}}": "a b c",
		"{{define a}}{{call b}}{{end}}{{define b}}{{call c}}{{end}}{{define c}}{{call a}}{{end}}": "", "{{define f}}{{call f}}{{end}}": "", "{{call f}}{{define f}}{{call f}}{{end}}": "f", "{{call g}}{{define f}}{{call f}}{{end}}{{define g}}{{end}}": "g",
		"{{call f}}{{define f}}{{call f}}{{call g}}{{call f}}{{end}}{{define g}}{{call f}}{{call g}}{{end}}": "f g", "{{define a}}{{call b}}{{end}}{{define b}}{{call a}}{{end}}{{call c}}{{define c}}{{call d}}{{end}}{{define d}}{{call c}}{{end}}": "c d",
		// called by an unreachable definition alone
		"{{define f}}{{call g}}{{end}}{{define g}}{{end}}": "", "{{call h}}{{define f}}{{call g}}{{end}}{{define g}}{{end}}{{define h}}{{end}}": "h", "{{call h}}{{define f}}{{call g}}{{call h}}{{end}}{{define g}}{{call h}}{{end}}{{define h}}{{end}}": "h",
		// names without a definition, which lead to nothing
		"{{call x}}{{call f}}{{define f}}{{end}}": "f", "{{call f}}{{call x}}{{define f}}{{call y}}{{call g}}{{end}}{{define g}}{{call x}}{{end}}": "f g", "{{call x}}{{define f}}{{call x}}{{end}}": "", "{{call x}}{{define xx}}{{end}}{{define X}}{{end}}": "",
		// several ways to the same definition
		"{{call a}}{{call b}}{{define a}}{{call c}}{{end}}{{define b}}{{call c}}{{end}}{{define c}}{{call d}}{{end}}{{define d}}{{end}}": "a b c d", "{{call b}}{{call a}}{{define a}}{{call c}}{{call d}}{{end}}{{define b}}{{call d}}{{call c}}{{end}}{{define c}}{{end}}{{define d}}{{end}}": "a b c d",
	} {
		reaches(t, src, want)
	}
}

// TestReachableOrder has names in other orders than those in which they are called and defined.
func TestReachableOrder(t *testing.T) { // P14.3
	// upper-case letters before the underscore, and this before lower-case letters; digits before all of them
	want := strings.Fields("A AB A_ Aa B Z Z9 a a1 a10 a2 aA a_ aa ab abc b z z0")
	if !slices.IsSorted(want) {
		t.Fatal(want)
	}
	for shift := range want {
		for step := 1; step < len(want); step++ { // each of which leads to all of the names, since their number is prime
			var calls, definitions, chain strings.Builder
			for i := range want {
				name, next := want[(shift+i*step)%len(want)], want[(shift+(i+1)*step)%len(want)]
				calls.WriteString("{{call " + name + "}}")
				definitions.WriteString("{{define " + name + "}}{{end}}")
				chain.WriteString("{{define " + name + "}}{{call " + next + "}}{{end}}")
			}
			reaches(t, calls.String()+definitions.String(), strings.Join(want, " "))
			reaches(t, definitions.String()+calls.String(), strings.Join(want, " "))
			reaches(t, calls.String()+"{{define Aa}}{{end}}{{define a10}}{{end}}{{define a_}}{{end}}{{define a}}{{end}}", "Aa a a10 a_")
			reaches(t, "{{call "+want[step]+"}}"+chain.String(), strings.Join(want, " "))
		}
	}
}

// TestReachableByPlaces has a call in each place.
func TestReachableByPlaces(t *testing.T) { // P14.3
	for _, place := range callPlaces() {
		for _, call := range []string{"{{call f}}", "{{call f .}}", "{{call f .x}}"} {
			src := strings.Replace(place, "_", call, 1) + "{{define f}}{{call g}}{{end}}{{define g}}{{end}}{{define z}}{{call f}}{{end}}"
			want := "f g"
			switch {
			case strings.HasPrefix(place, "{{call a}}{{define a}}"):
				want = "a b f g"
			case strings.HasPrefix(place, "{{call a}}"):
				want = "a f g"
			case strings.HasPrefix(place, "{{define"): // nothing calls it
				want = ""
			}
			reaches(t, src, want)
		}
	}
}

// TestReachableOfSeveralCalls has calls in Body and Else of blocks that call more than one definition.
func TestReachableOfSeveralCalls(t *testing.T) { // P14.3
	const all = "{{define a}}{{end}}{{define b}}{{end}}{{define c}}{{end}}{{define d}}{{end}}{{define e}}{{end}}"
	for src, want := range map[string]string{
		"{{if .}}{{call a}}{{else}}{{call b}}{{end}}":                                         "a b",
		"{{if .}}{{call c}}{{else}}{{call a}}{{end}}{{call b}}":                               "a b c",
		"{{if .}}{{end}}{{call e}}{{range .}}{{call d}}{{end}}":                               "d e",
		"{{range .}}{{if .}}{{call e}}{{else}}{{call d}}{{end}}{{call c}}{{end}}{{call b}}":   "b c d e",
		"{{if .}}{{if .}}{{call a}}{{else}}{{call b}}{{end}}{{else}}{{call c}}{{end}}":        "a b c",
		"{{if .}}{{else}}{{if .}}{{call a}}{{else}}{{call b}}{{end}}{{call c}}{{end}}":        "a b c",
		"{{if .}}{{call x}}{{else}}{{call b}}{{end}}":                                         "b",
		"{{if .}}{{call b}}{{else}}{{call x}}{{end}}{{call y}}":                               "b",
		"{{if .}}{{call b}}{{else}}{{call b}}{{end}}{{range .}}{{call b}}{{end}}{{call b .}}": "b",
	} {
		reaches(t, src+all, want)
		reaches(t, all+src, want)
		reaches(t, all+"{{call f}}{{define f}}"+src+"{{end}}", want+" f")
		reaches(t, "{{define f}}"+src+"{{end}}"+all, "")
	}
}

// TestReachableWithSeveralDefinitionsOfAName has definitions of one name, which are all called by a call of this name.
func TestReachableWithSeveralDefinitionsOfAName(t *testing.T) { // P14.3
	for src, want := range map[string]string{
		"{{call f}}{{define f}}{{end}}{{define f}}{{end}}":                                                                              "f",
		"{{call f}}{{define f}}x{{end}}{{define g}}{{end}}{{define f}}y{{end}}{{call f}}{{define f}}{{end}}":                            "f",
		"{{define f}}{{end}}{{define f}}{{end}}":                                                                                        "",
		"{{define f}}{{call f}}{{end}}{{define f}}{{call f}}{{end}}":                                                                    "",
		"{{call f}}{{define f}}{{call f}}{{end}}{{define f}}{{call f}}{{end}}":                                                          "f",
		"{{call f}}{{define f}}{{call g}}{{end}}{{define f}}{{call g}}{{end}}{{define g}}{{end}}":                                       "f g",
		"{{call f}}{{define f}}{{call g}}{{end}}{{define f}}{{end}}{{define g}}{{end}}":                                                 "f g",
		"{{call f}}{{define f}}{{end}}{{define f}}{{call g}}{{end}}{{define g}}{{end}}":                                                 "f g",
		"{{call f}}{{define f}}{{call g}}{{end}}{{define f}}{{call h}}{{end}}{{define g}}{{end}}{{define h}}{{end}}":                    "f g h",
		"{{call f}}{{define f}}{{end}}{{define f}}{{call g}}{{end}}{{define g}}{{end}}{{define g}}{{call h}}{{end}}":                    "f g",
		"{{call f}}{{define f}}{{call g}}{{end}}{{define g}}{{end}}{{define g}}{{call h}}{{end}}{{define h}}{{end}}{{call g}}":          "f g h",
		"{{call g}}{{define f}}{{call h}}{{end}}{{define f}}{{call g}}{{end}}{{define g}}{{end}}{{define g}}x{{end}}":                   "g",
		"{{call g}}{{define f}}{{end}}{{define g}}{{end}}{{define f}}{{call f}}{{end}}{{define g}}{{call g}}{{end}}{{define g}}{{end}}": "g",
	} {
		reaches(t, src, want)
	}
}

// TestReachableOfLongChains has as long a chain and a circle of definitions as there is room for.
func TestReachableOfLongChains(t *testing.T) { // P14.3
	const length = 1500
	var up, down strings.Builder
	var names []string
	for i := range length {
		names = append(names, "d"+strconv.Itoa(i))
		up.WriteString("{{define d" + strconv.Itoa(i) + "}}{{call d" + strconv.Itoa(i+1) + "}}{{end}}")
		down.WriteString("{{define d" + strconv.Itoa(length-1-i) + "}}{{call d" + strconv.Itoa(length-i) + "}}{{end}}")
	}
	sorted := slices.Sorted(slices.Values(names))
	for _, src := range []string{up.String(), down.String()} {
		reaches(t, "{{call d0}}"+src, strings.Join(sorted, " "))
		reaches(t, src+"{{call d0}}", strings.Join(sorted, " "))
		reaches(t, src+"{{call d1498}}", "d1498 d1499")
		reaches(t, src, "")
		circle := strings.Replace(src, "{{call d1500}}", "{{call d0}}", 1)
		reaches(t, circle+"{{if .}}{{else}}{{call d750}}{{end}}", strings.Join(sorted, " "))
		reaches(t, circle, "")
	}
	var calls strings.Builder
	for i := range length {
		calls.WriteString("{{call d" + strconv.Itoa(length-1-i) + "}}")
	}
	reaches(t, calls.String()+definitions(length), strings.Join(sorted, " "))
	reaches(t, "{{call f}}{{define f}}{{range .}}"+calls.String()+"{{end}}{{end}}"+definitions(length), strings.Join(append(sorted, "f"), " "))
}
