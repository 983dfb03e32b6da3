package script_test

import (
	"fmt"
	"regexp"
	"strconv"
	"strings"
	"testing"

	"tmplpipe/api"
	"tmplpipe/dechunk"
	"tmplpipe/driver"
	"tmplpipe/model"
	"tmplpipe/parse"
	"tmplpipe/provider"
	"tmplpipe/script"
)

// lineForms are the forms of all lines, but for what a value is, and how great a number.
var lineForms = []*regexp.Regexp{
	regexp.MustCompile(`\A(source) (` + stringForm + `)\z`),
	regexp.MustCompile(`(?s)\A(data) (` + nameForm + `) (.*)\z`),
	regexp.MustCompile(`\A(fail) (` + nameForm + `)\z`),
	regexp.MustCompile(`\A(size)( ` + numberForm + ` ` + numberForm + `)\z`),
	regexp.MustCompile(`\A(feed)((?: ` + numberForm + `)*)\z`),
	regexp.MustCompile(`\A(open|wire|payload|report|model|clear)\z`),
}

// parts returns the word and the operands of a line, or nothing if it has none of the forms.
func parts(line string) []string {
	for _, form := range lineForms {
		if m := form.FindStringSubmatch(line); m != nil {
			return m[1:]
		}
	}
	return nil
}

// description is a session as the chapter describes it.
type description struct {
	c driver.Config
	d *driver.Driver
}

func described() *description { return &description{c: driver.Config{Capacity: 1024, Most: 1024}} }

// answer does what Do is to do.
func (x *description) answer(line string) string {
	m := parts(line)
	if m == nil {
		return "error 5"
	}
	switch m[0] {
	case "size", "feed":
		return x.answerNumbers(m[0], strings.Fields(m[1]))
	case "source":
		x.c.Source, _ = strconv.Unquote(m[1])
	case "data":
		if !isLiteral(m[2]) {
			return "error 5"
		}
		v, _ := script.Get(m[2])
		x.c.Fields = append(x.c.Fields, field(m[1], v))
	case "fail":
		x.c.Fail = append(x.c.Fail, m[1])
	case "clear":
		*x = *described()
	case "open":
		d, at, err := driver.New(x.c)
		if x.d = d; err != api.OK {
			return fmt.Sprintf("error %d at %d", int(err), at)
		}
	case "model":
		return x.rendered()
	default:
		return x.reported(m[0])
	}
	return "ok"
}

// answerNumbers executes size and feed.
func (x *description) answerNumbers(word string, operands []string) string {
	var all []int
	for _, operand := range operands {
		n, err := strconv.ParseInt(operand, 10, 64)
		if err != nil {
			return "error 5"
		}
		all = append(all, int(n))
	}
	if word == "size" {
		x.c.Capacity, x.c.Most = all[0], all[1]
		return "ok"
	}
	if x.d == nil {
		return "error 4"
	}
	if err := x.d.Feed(all...); err != api.OK {
		return fmt.Sprintf("error %d %d", int(err), len(x.d.Report().Wire))
	}
	return fmt.Sprintf("done %d", len(x.d.Report().Wire))
}

// reported executes wire, payload and report.
func (x *description) reported(word string) string {
	if x.d == nil {
		return "error 4"
	}
	r := x.d.Report()
	switch word {
	case "wire":
		return written(str(string(r.Wire)))
	case "payload":
		decoder := dechunk.New()
		decoder.Feed(r.Wire)
		return written(str(string(decoder.Payload())))
	}
	if len(r.Pulls) == 0 {
		r.Pulls = []string{"-"}
	}
	return fmt.Sprintf("calls %d actions %d steps %d chunks %d flushes %d pulls %s", r.Calls, r.Actions, r.Steps, r.Chunks, r.Flushes, strings.Join(r.Pulls, ","))
}

// rendered executes model.
func (x *description) rendered() string {
	if at, err := driver.Check(x.c); err != api.OK {
		return fmt.Sprintf("error %d at %d", int(err), at)
	}
	l, _, _ := parse.Parse(x.c.Source)
	p, _ := provider.New(x.c.Fields, x.c.Fail)
	r := model.Render(l, p)
	s := fmt.Sprintf("%s steps %d", written(str(r.Out)), r.Steps)
	if r.Err != api.OK {
		s += fmt.Sprintf(" error %d", int(r.Err))
	}
	return s
}

// pair is a session and its description.
type pair struct {
	s *script.Session
	x *description
}

func paired() *pair { return &pair{script.New(), described()} }

// do executes a line with both, and returns the answer.
func (q *pair) do(t *testing.T, line string) string {
	t.Helper()
	want := q.x.answer(line)
	says(t, q.s, line, want)
	return want
}
