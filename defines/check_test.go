package defines_test

import (
	"math"
	"slices"
	"strconv"
	"strings"
	"testing"

	"tmplpipe/api"
	"tmplpipe/defines"
)

// checksAs checks the result of Check for a template, for several offsets of its nodes.
func checksAs(t *testing.T, src string, want int, wantErr api.Errno) {
	t.Helper()
	for _, change := range offsets() {
		l, wantAt := parsed(t, src), 0
		changeOffsets(l, change)
		if wantErr != api.OK {
			wantAt = change(want)
		}
		if at, err := defines.Check(l); at != wantAt || err != wantErr {
			t.Fatalf("Check of %.900q = %d, %v; want %d, %v", src, at, err, wantAt, wantErr)
		}
	}
}

// checksAsMarked does the same for a source in which an at sign marks the faulty node.
func checksAsMarked(t *testing.T, marked string, wantErr api.Errno) {
	t.Helper()
	if strings.Count(marked, "@") != 1 {
		t.Fatal(marked)
	}
	checksAs(t, strings.Replace(marked, "@", "", 1), strings.Index(marked, "@"), wantErr)
}

func TestCheckAccepts(t *testing.T) { // P14.2
	for _, src := range []string{
		"", "x", "{{.a}}{{flush}}", "{{if .a}}x{{else}}y{{end}}{{range .b}}{{.}}{{end}}",
		"{{define f}}{{end}}", "{{define f}}{{end}}{{define g}}{{end}}", "x{{define f}}y{{end}}z{{define g}}{{.}}{{end}}",
		// names that other nodes have as text or path, and names that are alike
		"f{{.f}}{{define f}}f{{.f}}{{if .f}}f{{end}}{{end}}f", "{{define f}}{{end}}{{define F}}{{end}}{{define ff}}{{end}}{{define f_}}{{end}}{{define f1}}{{end}}",
		// calls of definitions that stand before and behind them, with and without a path
		"{{define f}}{{end}}{{call f}}", "{{call f}}{{define f}}{{end}}", "{{call f}}{{call f .}}{{call f .a}}{{define f}}{{end}}{{call f}}", "{{call g}}{{define f}}{{end}}{{call f}}{{define g}}{{end}}",
		"{{define f}}{{end}}{{if .}}{{call f}}{{else}}{{call f}}{{end}}{{range .}}{{call f}}{{end}}",
		// definitions that call others, themselves, and one another
		"{{define f}}{{call g}}{{end}}{{define g}}{{end}}", "{{define f}}{{end}}{{define g}}{{call f}}{{end}}", "{{define f}}{{call f}}{{end}}", "{{define f}}{{call g}}{{end}}{{define g}}{{call f}}{{end}}",
		"{{define f}}{{if .a}}{{call g}}{{else}}{{range .}}{{call h}}{{end}}{{end}}{{end}}{{define g}}{{call f}}{{end}}{{call h}}{{define h}}{{call h .}}{{end}}",
		// the example for the reachable names
		"{{call f}}{{define f}}{{call g}}{{end}}{{define g}}{{end}}{{define h}}{{end}}",
	} {
		checksAs(t, src, 0, api.OK)
	}
}

func TestCheckOfDuplicates(t *testing.T) { // P14.2
	for _, marked := range []string{
		"{{define f}}{{end}}@{{define f}}{{end}}", "x{{define f}}{{end}}y@{{define f}}{{end}}z", "{{define f}}x{{end}}@{{define f}}x{{end}}", "{{define f}}x{{end}}@{{define f}}y{{.}}{{end}}", "{{define  f}}{{end}}@{{ define f }}{{ end }}",
		"{{define f}}{{end}}@{{define f}}{{end}}{{define f}}{{end}}", "{{define f}}{{end}}{{define g}}{{end}}@{{define f}}{{end}}{{define f}}{{end}}", "{{define f}}{{end}}@{{define f}}{{end}}{{define g}}{{end}}{{define f}}{{end}}",
		"{{define f}}{{end}}{{define g}}{{end}}@{{define f}}{{end}}", "{{define f}}{{end}}{{define g}}{{end}}@{{define g}}{{end}}", "{{define f}}{{end}}{{define g}}{{end}}@{{define f}}{{end}}{{define g}}{{end}}",
		"{{define f}}{{end}}{{define g}}{{end}}@{{define g}}{{end}}{{define f}}{{end}}", "{{define f}}{{end}}{{define g}}{{end}}{{define h}}{{end}}x@{{define g}}{{end}}{{define h}}{{end}}{{define f}}{{end}}",
		"{{define f}}{{end}}{{define F}}{{end}}{{define ff}}{{end}}@{{define F}}{{end}}",
		"{{call f}}{{define f}}{{call f}}{{end}}{{call f}}@{{define f}}{{call f}}{{end}}{{call f}}",
		// only the names of definitions count
		"f{{call f}}{{.f}}{{define f}}f{{call g}}{{.g}}g{{end}}{{define g}}{{end}}{{call g}}@{{define g}}{{end}}",
		// far apart
		"{{define f}}{{end}}" + strings.Repeat("x{{.f}}", 1000) + "@{{define f}}{{end}}", definitions(api.MaxDefines/2) + "@{{define d0}}{{end}}", definitions(api.MaxDefines-1) + "@{{define d0}}{{end}}", definitions(api.MaxDefines-1) + "@{{define d40}}{{end}}" + definitions(3),
	} {
		checksAsMarked(t, marked, api.ErrDuplicate)
	}
}

// TestCheckOfEachDuplicate has all pairs of equal names among MaxDefines definitions.
func TestCheckOfEachDuplicate(t *testing.T) { // P14.2
	all := strings.SplitAfter(definitions(api.MaxDefines), "{{end}}")[:api.MaxDefines]
	checksAs(t, strings.Join(all, ""), 0, api.OK)
	for second := range all {
		for first := range second {
			pieces := slices.Clone(all)
			pieces[second] = "@" + pieces[first]
			checksAsMarked(t, strings.Join(pieces, ""), api.ErrDuplicate)
		}
	}
}

func TestCheckOfTooManyDefinitions(t *testing.T) { // P14.2
	for n := range api.MaxDefines + 1 {
		checksAs(t, definitions(n), 0, api.OK)
		checksAs(t, "x"+strings.ReplaceAll(definitions(n), "{{end}}", "{{.a}}{{end}}{{flush}}"), 0, api.OK)
	}
	full := definitions(api.MaxDefines)
	for _, behind := range []string{"", "x", definitions(1), definitions(1) + definitions(1), "{{define f}}{{end}}", "{{define g}}{{end}}", "{{define f}}{{end}}{{define h}}{{end}}{{define i}}{{end}}", "{{call x}}"} {
		checksAsMarked(t, full+"@{{define f}}{{end}}"+behind, api.ErrLimit)
		checksAsMarked(t, full+"x{{call f}}{{.}}@{{define f}}y{{end}}z"+behind, api.ErrLimit)
		checksAsMarked(t, "{{call f}}{{flush}}"+full+"@{{define f}}{{call f}}{{end}}"+behind, api.ErrLimit)
	}
	for _, n := range []int{api.MaxDefines + 1, api.MaxDefines + 2, 2 * api.MaxDefines, many} {
		checksAs(t, definitions(n), len(full), api.ErrLimit)
	}
}

// TestCheckOfDuplicatesAmongTooMany has both errors, for one definition and for several.
func TestCheckOfDuplicatesAmongTooMany(t *testing.T) { // P14.2
	full, last := definitions(api.MaxDefines), "{{define d"+strconv.Itoa(api.MaxDefines-1)+"}}{{end}}"
	less := strings.TrimSuffix(full, last)
	for i := range api.MaxDefines {
		again := "{{define d" + strconv.Itoa(i) + "}}{{end}}"
		// Both errors apply to the marked definition, and to those behind it one or both.
		checksAsMarked(t, full+"@"+again, api.ErrDuplicate)
		checksAsMarked(t, full+"@"+again+again, api.ErrDuplicate)
		checksAsMarked(t, full+"@"+again+"{{define f}}{{end}}", api.ErrDuplicate)
		// The definition that is one too many precedes the duplicate.
		checksAsMarked(t, full+"@{{define f}}{{end}}"+again, api.ErrLimit)
		checksAsMarked(t, full+"@{{define f}}{{end}}{{define g}}{{end}}"+again, api.ErrLimit)
		if again == last {
			continue
		}
		// The duplicate precedes the definition that is one too many, so that as many definitions as permitted have other names.
		checksAsMarked(t, less+"@"+again+last+"{{define f}}{{end}}", api.ErrDuplicate)
		checksAsMarked(t, less+"@"+again+"{{define f}}{{end}}{{define g}}{{end}}", api.ErrDuplicate)
		checksAsMarked(t, less+"@"+again+again+again, api.ErrDuplicate)
	}
	checksAsMarked(t, full+"@{{define f}}{{end}}{{define f}}{{end}}", api.ErrLimit)
	checksAsMarked(t, "{{define f}}{{end}}@{{define f}}{{end}}"+full, api.ErrDuplicate)
	checksAsMarked(t, "{{define f}}{{end}}@{{define f}}{{end}}"+less, api.ErrDuplicate)
}

// callPlaces returns sources with an underscore at each sort of place where a call can be.
func callPlaces() []string {
	var all []string
	for _, place := range []string{
		"_", "x_y", "{{if .}}_{{end}}", "{{if .}}_{{else}}{{end}}", "{{if .}}x{{else}}_{{end}}", "{{if .}}{{else}}x_y{{end}}", "{{range .}}_{{end}}", "{{range .a}}x{{.}}_{{end}}",
		"{{if .}}{{if .}}_{{end}}{{end}}", "{{if .}}{{if .}}{{else}}_{{end}}{{end}}", "{{if .}}{{else}}{{if .}}_{{end}}{{end}}", "{{if .}}{{else}}{{if .}}{{else}}_{{end}}{{end}}",
		"{{range .}}{{range .}}_{{end}}{{end}}", "{{range .}}{{if .}}_{{else}}{{end}}{{end}}", "{{range .}}{{if .}}{{else}}_{{end}}{{end}}", "{{if .}}{{range .}}_{{end}}{{end}}", "{{if .}}{{else}}{{range .}}_{{end}}{{end}}",
	} {
		all = append(all, place, "{{define a}}"+place+"{{end}}", "{{call a}}{{define a}}{{call b}}{{end}}{{define b}}"+place+"{{end}}", "{{call a}}"+place+"{{define a}}{{end}}", "{{define a}}{{call b}}{{end}}{{define b}}{{call a}}"+place+"{{end}}")
	}
	deep, deeper := api.MaxNest-1, api.MaxNest
	return append(all,
		strings.Repeat("{{if .}}", deeper)+"_"+strings.Repeat("{{end}}", deeper), strings.Repeat("{{if .}}x{{else}}", deeper)+"_"+strings.Repeat("{{end}}", deeper), strings.Repeat("{{range .}}", deeper)+"_"+strings.Repeat("{{end}}", deeper),
		"{{define a}}"+strings.Repeat("{{if .}}", deep)+"_"+strings.Repeat("{{end}}", deep)+"{{end}}", "{{define a}}"+strings.Repeat("{{if .}}{{else}}", deep)+"_"+strings.Repeat("{{end}}", deep)+"{{end}}", "{{define a}}"+strings.Repeat("{{range .}}", deep)+"_"+strings.Repeat("{{end}}", deep)+"{{end}}")
}

// TestCheckOfCalls has calls with and without a definition in each place.
func TestCheckOfCalls(t *testing.T) { // P14.2
	for _, place := range callPlaces() {
		for _, call := range []string{"{{call f}}", "{{call f .}}", "{{call f .a.b}}"} {
			src, marked := strings.Replace(place, "_", call, 1), strings.Replace(place, "_", "@"+call, 1)
			for _, others := range []string{"", "f{{.f}}", "{{define g}}f{{.f}}{{end}}", "{{define F}}{{end}}{{define ff}}{{end}}"} {
				checksAsMarked(t, marked+others, api.ErrName)
				checksAsMarked(t, others+marked, api.ErrName)
			}
			checksAs(t, src+"{{define f}}{{end}}", 0, api.OK)
			checksAs(t, "{{define f}}{{call f}}{{end}}"+src, 0, api.OK)
			checksAsMarked(t, "{{define f}}{{end}}{{call f}}"+src+"@{{call g}}", api.ErrName)
			// a faulty definition behind the faulty call and before it
			checksAsMarked(t, src+"{{define g}}{{end}}@{{define g}}{{end}}", api.ErrDuplicate)
			checksAsMarked(t, "{{define g}}{{end}}@{{define g}}{{end}}"+src, api.ErrDuplicate)
		}
	}
}

// TestCheckOfTheFirstCall has several calls without a definition.
func TestCheckOfTheFirstCall(t *testing.T) { // P14.2
	for _, marked := range []string{
		"@{{call f}}{{call f}}", "@{{call f}}{{call g}}", "@{{call g}}{{call f}}", "x@{{call f .a}}y{{call f .a}}", "@{{call f}}{{define g}}{{call h}}{{end}}", "{{define g}}@{{call h}}{{end}}{{call f}}",
		"{{if .}}@{{call f}}{{else}}{{call g}}{{end}}{{call h}}", "{{if .}}{{else}}@{{call g}}{{end}}{{call h}}", "{{if .}}@{{call f}}{{end}}{{call g}}", "@{{call f}}{{if .}}{{call g}}{{else}}{{call h}}{{end}}", "{{if .}}{{end}}@{{call f}}{{if .}}{{call g}}{{end}}",
		"{{if .}}{{if .}}@{{call f}}{{end}}{{call g}}{{else}}{{call h}}{{end}}", "{{if .}}{{if .}}{{else}}@{{call f}}{{end}}{{call g}}{{else}}{{call h}}{{end}}", "{{if .}}@{{call f}}{{if .}}{{call g}}{{end}}{{else}}{{call h}}{{end}}",
		"{{if .}}x{{else}}{{if .}}@{{call f}}{{else}}{{call g}}{{end}}{{call h}}{{end}}", "{{if .}}x{{else}}@{{call f}}{{if .}}{{call g}}{{end}}{{end}}", "{{range .}}@{{call f}}{{end}}{{call g}}", "@{{call f}}{{range .}}{{call g}}{{end}}",
		"{{range .}}{{if .}}@{{call f}}{{else}}{{call g}}{{end}}{{call h}}{{end}}", "{{range .}}{{.}}{{range .}}@{{call f}}{{end}}{{call g}}{{end}}",
		"{{define a}}@{{call f}}{{end}}{{define b}}{{call g}}{{end}}", "{{define a}}{{call a}}{{call b}}@{{call f}}{{end}}{{define b}}{{call g}}{{end}}{{call h}}", "{{call b}}{{define a}}@{{call f}}{{end}}{{define b}}{{call g}}{{end}}",
		// calls with a definition between those without one
		"{{call a}}{{call b}}@{{call f}}{{call a}}{{call g}}{{define a}}{{end}}{{define b}}{{end}}", "{{if .}}{{call a}}{{else}}{{call a}}@{{call f}}{{end}}{{call g}}{{define a}}{{end}}", "{{define a}}{{call a}}{{end}}{{call a}}{{range .}}{{call a}}@{{call aa}}{{end}}{{call f}}",
		// names that are parts of others, or have letters of another case
		"{{define f}}{{end}}{{call f}}@{{call F}}", "{{define F}}{{end}}@{{call f}}", "{{define ff}}{{end}}@{{call f}}", "{{define f}}{{end}}@{{call ff}}", "{{define f_}}{{end}}@{{call f}}{{call f_}}", "{{define f1}}{{end}}{{call f1}}@{{call f}}",
	} {
		checksAsMarked(t, marked, api.ErrName)
	}
	checksAs(t, "{{define f}}{{end}}"+strings.Repeat("{{call f}}", 4000)+"{{call g}}", 19+40000, api.ErrName)
	checksAs(t, strings.Repeat("{{call f}}", 4000)+"{{define f}}{{end}}", 0, api.OK)
}

// TestCheckOfDefinitionsFirst has faulty definitions and faulty calls, in both orders.
func TestCheckOfDefinitionsFirst(t *testing.T) { // P14.2
	full := definitions(api.MaxDefines)
	for marked, want := range map[string]api.Errno{
		"{{call g}}{{define f}}{{end}}@{{define f}}{{end}}":                        api.ErrDuplicate,
		"{{define f}}{{end}}{{call g}}@{{define f}}{{end}}":                        api.ErrDuplicate,
		"{{define f}}{{end}}@{{define f}}{{end}}{{call g}}":                        api.ErrDuplicate,
		"{{define f}}{{call g}}{{end}}@{{define f}}{{end}}":                        api.ErrDuplicate,
		"{{define f}}{{end}}@{{define f}}{{call g}}{{end}}":                        api.ErrDuplicate,
		"{{if .}}{{else}}{{call g}}{{end}}{{define f}}{{end}}@{{define f}}{{end}}": api.ErrDuplicate,
		"{{call g}}" + full + "@{{define f}}{{end}}":                               api.ErrLimit,
		full + "{{call g}}@{{define f}}{{end}}":                                    api.ErrLimit,
		full + "@{{define f}}{{end}}{{call g}}":                                    api.ErrLimit,
		full + "@{{define f}}{{call g}}{{end}}":                                    api.ErrLimit,
		"{{call g}}" + full + "@{{define f}}{{end}}{{define g}}{{end}}":            api.ErrLimit,
		"{{range .}}{{call g}}{{end}}" + full + "@{{define d7}}{{end}}":            api.ErrDuplicate,
		full + "@{{call g}}": api.ErrName,
		"@{{call g}}" + full: api.ErrName,
		"@{{call d" + strconv.Itoa(api.MaxDefines) + "}}" + full + "{{call d}}":     api.ErrName,
		"{{call d" + strconv.Itoa(api.MaxDefines-1) + "}}" + full + "@{{call d64}}": api.ErrName,
	} {
		checksAsMarked(t, marked, want)
	}
}

// TestCheckReturnsTheOffsetAsItIs has the offset 0 together with errors, and other offsets with OK.
func TestCheckReturnsTheOffsetAsItIs(t *testing.T) { // P14.2, rule 2
	for _, src := range []string{"{{call f}}", "{{define f}}{{end}}{{define f}}{{end}}", definitions(api.MaxDefines + 1), "{{if .}}{{else}}{{call f}}{{end}}"} {
		for _, offset := range []int{0, 1, -1, math.MaxInt, math.MinInt} {
			l := parsed(t, src)
			changeOffsets(l, func(int) int { return offset })
			if at, err := defines.Check(l); at != offset || err == api.OK {
				t.Fatal(at, err, offset, src)
			}
			l = parsed(t, "x{{define f}}{{call f}}{{end}}{{call f}}")
			changeOffsets(l, func(int) int { return offset })
			if at, err := defines.Check(l); at != 0 || err != api.OK {
				t.Fatal(at, err, offset)
			}
		}
	}
}
