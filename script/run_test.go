package script_test

import (
	"slices"
	"strings"
	"testing"

	"tmplpipe/api"
	"tmplpipe/script"
)

// ran checks what Run returns for a text.
func ran(t *testing.T, text, want string) {
	t.Helper()
	if got, err := script.Run(text); got != want || err != api.OK {
		t.Fatalf("Run(%.300q) = %.300q, %v, want %.300q", text, got, err, want)
	}
}

// tooLong checks that Run does not take a text.
func tooLong(t *testing.T, text string) {
	t.Helper()
	if got, err := script.Run(text); got != "" || err != api.ErrTooLong {
		t.Fatalf("Run(%d bytes) = %.300q, %v", len(text), got, err)
	}
}

// TestRun has texts with empty lines at all places.
func TestRun(t *testing.T) { // P22.3
	ran(t, "", "")
	ran(t, "\n", "")
	ran(t, "\n\n\n", "")
	ran(t, "clear", "ok\n")
	ran(t, "clear\n", "ok\n")
	ran(t, "\nclear", "ok\n")
	ran(t, "\n\n\nclear\n\n\n", "ok\n")
	ran(t, "x", "error 5\n")
	ran(t, " ", "error 5\n")
	ran(t, " \n\t\n\r\n\x00\n\xff", "error 5\nerror 5\nerror 5\nerror 5\nerror 5\n")
	ran(t, "clear\r\nclear\r\nclear", "error 5\nerror 5\nok\n")
	ran(t, "wire\nfoo\n\nopen\nwire\nfeed", "error 4\nerror 5\nok\n\"\"\nerror 10 0\n")
	ran(t, "source \"a\nb\"", "error 5\nerror 5\n")
	lines := []string{`source "a{{.x}}"`, `data x "<"`, "open", "feed 99 99", "payload"} // the example of the chapter
	const answered = "ok\nok\nok\ndone 15\n\"a&lt;\"\n"
	ran(t, strings.Join(lines, "\n"), answered)
	ran(t, strings.Join(lines, "\n")+"\n", answered)
	for i := range len(lines) + 1 {
		ran(t, strings.Join(slices.Insert(slices.Clone(lines), i, ""), "\n"), answered)
		ran(t, strings.Join(slices.Insert(slices.Clone(lines), i, "", "", ""), "\n"), answered)
		ran(t, strings.Join(lines[:i], "\n"), strings.Join(strings.SplitAfter(answered, "\n")[:i], ""))
	}
}

// TestRunOrder has lines whose answers depend on the ones before.
func TestRunOrder(t *testing.T) { // P22.3
	ran(t, "open\nfeed 3\nfeed 1\nfeed 1\nwire\nreport\nfeed\nclear\nfeed", "ok\nerror 10 3\nerror 10 4\ndone 5\n\"0\\x0d\\n\\x0d\\n\"\ncalls 3 actions 5 steps 0 chunks 0 flushes 0 pulls -\ndone 5\nok\nerror 4\n")
	ran(t, "feed\nopen\nfeed", "error 4\nok\nerror 10 0\n")
	ran(t, "size 1 1\nmodel\nsize 0 1\nmodel\nopen\nfeed x\nfeed 1", "ok\n\"\" steps 0\nok\nerror 3 at 0\nerror 3 at 0\nerror 5\nerror 4\n")
	for range 3 { // each Run has a session of its own
		ran(t, "model\nwire\nsource \"{{.x}}\"\ndata x 1\nfail x\nsize 5 5\nopen\nmodel", "\"\" steps 0\nerror 4\nok\nok\nok\nok\nok\n\"\" steps 1 error 20\n")
	}
}

// TestRunBytes has texts of just as many bytes as are allowed, and more.
func TestRunBytes(t *testing.T) { // P22.3
	const most = 262144
	full := `source "` + strings.Repeat("a", most-9) + `"`
	ran(t, full, "ok\n")
	tooLong(t, full+"\n")
	tooLong(t, full+" ")
	tooLong(t, "\n"+full)
	ran(t, strings.Repeat("x", most), "error 5\n")
	tooLong(t, strings.Repeat("x", most+1))
	ran(t, strings.Repeat("x", most-1)+"\n", "error 5\n")
	ran(t, "\n"+strings.Repeat("\xff", most-1), "error 5\n")
	tooLong(t, strings.Repeat("\xff", most)+"\n")
	tooLong(t, strings.Repeat("\u00e4", most/2+1))
	ran(t, "clear\n"+full[:most-6], "ok\nerror 5\n")
	tooLong(t, strings.Repeat("clear\n", most))
	tooLong(t, strings.Repeat("x", 1<<24))
	ran(t, "data x ["+strings.Repeat("1,", most/2-6)+"1]\n\n", "ok\n")
	tooLong(t, "data x ["+strings.Repeat("1,", most/2-6)+"1]\n\n\n")
}

// TestRunLines has texts of just as many lines as are allowed, and more.
func TestRunLines(t *testing.T) { // P22.3
	const most = 4096
	ran(t, strings.Repeat("\n", most-1), "")
	tooLong(t, strings.Repeat("\n", most))
	tooLong(t, strings.Repeat("\n", 262144))
	tooLong(t, strings.Repeat("\n", 262145))
	ran(t, strings.Repeat("clear\n", most-1), strings.Repeat("ok\n", most-1))
	ran(t, strings.Repeat("clear\n", most-1)+"wire", strings.Repeat("ok\n", most-1)+"error 4\n")
	ran(t, strings.Repeat("\n", most-1)+"wire", "error 4\n")
	ran(t, "wire"+strings.Repeat("\n", most-1), "error 4\n")
	tooLong(t, strings.Repeat("clear\n", most))
	tooLong(t, "wire"+strings.Repeat("\n", most))
	tooLong(t, strings.Repeat("\n", most)+"wire")
	ran(t, strings.Repeat("\r", 2*most), "error 5\n")
	ran(t, strings.Repeat("\u2028\u0085", most), "error 5\n")
	long := strings.Repeat(strings.Repeat("z", 63)+"\n", most-1) + strings.Repeat("z", 64) // as many bytes and lines as are allowed
	ran(t, long, strings.Repeat("error 5\n", most))
	tooLong(t, long+"z")
	tooLong(t, long[:len(long)-1]+"\n")
}

// TestRunIsDo compares Run with a session that executes the lines that are not empty.
func TestRunIsDo(t *testing.T) { // P22.2, P22.3, P22.5
	for _, lines := range [][]string{setting, probe, forms, append(slices.Clone(setting), probe...), append(slices.Clone(probe), forms...), append(slices.Clone(forms), "", "x", "", "wire")} {
		var kept []string
		for _, line := range lines {
			if line != "" {
				kept = append(kept, line)
			}
		}
		want := strings.Join(answers(script.New(), kept...), "\n") + "\n"
		ran(t, strings.Join(lines, "\n"), want)
		ran(t, strings.Join(lines, "\n")+"\n", want)
		ran(t, "\n\n"+strings.Join(lines, "\n\n")+"\n\n", want)
	}
}
