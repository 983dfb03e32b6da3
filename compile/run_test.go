package compile_test

import (
	"strconv"
	"testing"

	"tmplpipe/api"
	"tmplpipe/compile"
	"tmplpipe/infer"
)

// mostEvents is where a trace ends, if it does not end before: calls can go round in circles.
const mostEvents = 200

// trace is what happens on some way through a template: what is output, and what is read where a way is chosen.
type trace struct {
	events []string
	ways   numbers
}

func (tr *trace) full() bool { return len(tr.events) >= mostEvents }

func (tr *trace) add(words ...string) {
	event := ""
	for _, word := range words {
		event += word + " "
	}
	if !tr.full() {
		tr.events = append(tr.events, event)
	}
}

func callWords(path string, hasPath bool) []string {
	return []string{"call", path, strconv.FormatBool(hasPath)}
}

// walk follows the nodes of a list, with the escapers of the Print nodes by their offsets.
func (tr *trace) walk(l []api.Node, bodies map[string][]api.Node, escapers map[int]int) {
	for _, n := range l {
		if tr.full() {
			return
		}
		switch n.Kind {
		case api.Text:
			tr.add("text", n.S)
		case api.Print:
			tr.add("print", n.Path, strconv.Itoa(escapers[n.At]))
		case api.Flush:
			tr.add("flush")
		case api.Call:
			tr.add(callWords(n.Path, n.HasPath)...)
			tr.walk(bodies[n.S], bodies, escapers)
		case api.If:
			tr.add("if", n.Path)
			if tr.ways.below(2) == 0 {
				tr.walk(n.Else, bodies, escapers)
			} else {
				tr.walk(n.Body, bodies, escapers)
			}
		case api.Range:
			tr.add("range", n.Path)
			for range tr.ways.below(4) {
				tr.walk(n.Body, bodies, escapers)
			}
		}
	}
}

// run follows code as layer 19 does: left has the number of elements that are left of each loop, and behind the index of
// each call that has not ended.
func (tr *trace) run(t *testing.T, code []api.Ins) {
	t.Helper()
	var left, behind []int
	for index := 0; !tr.full(); index++ {
		ins := code[index]
		switch ins.Op {
		case api.OpText:
			tr.add("text", ins.S)
		case api.OpPrint:
			tr.add("print", ins.Path, strconv.Itoa(ins.Esc))
		case api.OpFlush:
			tr.add("flush")
		case api.OpCall:
			tr.add(callWords(ins.Path, ins.HasPath)...)
			behind = append(behind, index)
			index = ins.To - 1
		case api.OpRet:
			index = behind[len(behind)-1]
			behind = behind[:len(behind)-1]
		case api.OpIf:
			tr.add("if", ins.Path)
			if tr.ways.below(2) == 0 {
				index = ins.To - 1
			}
		case api.OpJump:
			index = ins.To - 1
		case api.OpRange:
			tr.add("range", ins.Path)
			if n := tr.ways.below(4); n > 0 {
				left = append(left, n-1)
			} else {
				index = ins.To - 1
			}
		case api.OpNext:
			last := len(left) - 1
			if left[last] > 0 {
				left[last]--
				index = ins.To - 1
			} else {
				left = left[:last]
			}
		case api.OpHalt:
			if len(left) > 0 || len(behind) > 0 {
				t.Fatal(left, behind)
			}
			return
		}
	}
}

// printsOf appends the offsets of the Print nodes, in preorder.
func printsOf(all []int, l []api.Node) []int {
	for _, n := range l {
		if n.Kind == api.Print {
			all = append(all, n.At)
		}
		all = printsOf(printsOf(all, n.Body), n.Else)
	}
	return all
}

// TestWaysThroughCode follows the code of templates on the ways on which their nodes are followed.
func TestWaysThroughCode(t *testing.T) { // P17.1
	var n numbers
	full, ended := 0, 0
	for range 3000 {
		src := n.template()
		l := parsed(t, src)
		code, _, err := compile.Code(l)
		if err != api.OK {
			continue
		}
		byOrder, _, _ := infer.Infer(l)
		escapers, bodies := map[int]int{}, map[string][]api.Node{}
		for i, at := range printsOf(nil, l) {
			escapers[at] = byOrder[i]
		}
		for _, node := range l {
			if node.Kind == api.Define {
				bodies[node.S] = node.Body
			}
		}
		for start := range 5 {
			byNodes, byCode := trace{ways: numbers(start)}, trace{ways: numbers(start)}
			byNodes.walk(l, bodies, escapers)
			byCode.run(t, code)
			for i := range max(len(byNodes.events), len(byCode.events)) {
				if i >= len(byNodes.events) || i >= len(byCode.events) || byNodes.events[i] != byCode.events[i] {
					t.Fatalf("%q: %q, want %q", src, byCode.events, byNodes.events)
				}
			}
			if byNodes.full() {
				full++
			} else if len(byNodes.events) > 5 {
				ended++
			}
		}
	}
	if full < 500 || ended < 2000 {
		t.Fatal(full, ended)
	}
}
