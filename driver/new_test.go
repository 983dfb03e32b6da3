package driver_test

import (
	"slices"
	"testing"

	"tmplpipe/api"
	"tmplpipe/driver"
	"tmplpipe/value"
)

func equalFields(a, b api.Field) bool { return a.Key == b.Key && value.Equal(a.Value, b.Value) }

// TestNew has templates for which much is to be done, of which New does nothing.
func TestNew(t *testing.T) { // P21.2, P21.4
	for _, src := range []string{"", "a", several, partial, "{{.s}}{{.x}}", "{{flush}}", "{{range .l}}{{.}}{{end}}", "{{.bad}}", "{{.l}}"} {
		for _, size := range sizesOfSeveral() {
			d := opened(t, config(src, size[0], size[1]))
			for range 3 {
				if r := d.Report(); !zero(r) {
					t.Fatalf("%s: %s", src, shown(r))
				}
			}
		}
	}
}

// spoil changes all that the slices of a configuration lead to.
func spoil(c driver.Config) {
	for i := range c.Fail {
		c.Fail[i] = "s"
	}
	for i := range c.Fields {
		spoilValue(&c.Fields[i].Value)
		c.Fields[i].Key = "spoilt"
	}
}

func spoilValue(v *api.Value) {
	for i := range v.Items {
		spoilValue(&v.Items[i])
	}
	for i := range v.Fields {
		spoilValue(&v.Fields[i].Value)
		v.Fields[i].Key = "spoilt"
	}
	*v = api.Value{Kind: api.Str, S: "spoilt"}
}

// deep has all kinds of values within each other.
func deep() []api.Field {
	return fields(object{
		"a": "first", "l": list{list{"x", 1}, list{"y", 2}}, "m": object{"s": "in", "t": true, "l": list{object{"s": "deep"}, object{"s": "deeper"}}}, "t": false, "z": 7,
	})
}

const deepSource = `{{.a}}{{range .l}}{{range .}}{{.}},{{end}}{{end}}{{if .m.t}}{{range .m.l}}{{.s}}{{end}}{{.m.s}}{{end}}{{if .t}}{{else}}{{.z}}{{end}}`

// TestChangedConfiguration changes a configuration behind each number of outcomes, before the first Feed among them.
func TestChangedConfiguration(t *testing.T) { // P21.2
	for _, end := range []string{"", "{{.w}}"} {
		configuration := func() driver.Config {
			return driver.Config{Source: deepSource + end, Fields: deep(), Fail: []string{"v", "w"}, Capacity: 3, Most: 2}
		}
		whole := ran(t, configuration(), ones(500)...)
		if want := []api.Errno{api.OK, api.ErrProvider}[len(end)/6]; whole.Err != want || whole.Done != (end == "") {
			t.Fatal(shown(whole))
		}
		for before := range whole.Calls {
			c := configuration()
			d := opened(t, c)
			if before > 0 {
				d.Feed(ones(before)...)
			}
			spoil(c)
			c.Source, c.Capacity, c.Most = "{{", 0, 0
			d.Feed(ones(500 - before)...)
			equal(t, d.Report(), whole)
		}
	}
}

// TestChangedSlices changes a part of a configuration at a time: an element, or one behind the length of a slice.
func TestChangedSlices(t *testing.T) { // P21.2
	whole := ran(t, driver.Config{Source: deepSource, Fields: deep(), Fail: []string{"v", "w"}, Capacity: 3, Most: 2}, accepting(99)...)
	for i, change := range []func(c driver.Config){
		func(c driver.Config) { c.Fields[0] = api.Field{Key: "b"} },
		func(c driver.Config) { c.Fields[0].Value.S = "last" },
		func(c driver.Config) { c.Fields[1].Value.Items[1].Items[0].S = "?" },
		func(c driver.Config) { c.Fields[2].Value.Fields[0].Value.Items[0].Fields[0].Key = "t" },
		func(c driver.Config) { c.Fields[2].Value.Fields[1].Value.S = "?" },
		func(c driver.Config) { c.Fields[3].Value = api.Value{Kind: api.Bool, B: true} },
		func(c driver.Config) { clear(c.Fields[1].Value.Items[:2]) },
		func(c driver.Config) { c.Fail[0], c.Fail[1] = "a", "l" },
		func(c driver.Config) { slices.Reverse(c.Fields) },
		func(c driver.Config) { _ = append(c.Fields[:4], api.Field{Key: "y"}) },
	} {
		c := driver.Config{Source: deepSource, Fields: deep(), Fail: []string{"v", "w"}, Capacity: 3, Most: 2}
		d := opened(t, c)
		change(c)
		d.Feed(accepting(99)...)
		if r := d.Report(); !same(r, whole) {
			t.Errorf("%d: %s, want %s", i, shown(r), shown(whole))
		}
	}
}
