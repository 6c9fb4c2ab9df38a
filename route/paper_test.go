package route_test

import (
	"math"
	"strings"

	"matins/api"
	"matins/atlas"
)

// The paper reads the chapter plainly, sentence by sentence; of maps it asks layer 19 whether they are right. What it answers may share memory with what it is given.

func paperName(s string) bool {
	strange := func(r rune) bool { return !strings.ContainsRune("abcdefghijklmnopqrstuvwxyz0123456789-.", r) }
	return 1 <= len(s) && len(s) <= 16 && !strings.ContainsFunc(s, strange)
}

// paperSpan is the span in which a name lies.
func paperSpan(a api.Atlas, name string) api.Span {
	for _, s := range a.Spans {
		if s.From <= name && (s.To == "" || name < s.To) {
			return s
		}
	}
	return api.Span{}
}

func paperNone(a api.Atlas) bool { return a.Groups == 0 && len(a.Spans) == 0 }

func paperBegin(nodes int, name string, known api.Atlas, tries int) answer {
	if nodes <= 0 || nodes > 7 || tries <= 0 || tries > 64 || !paperName(name) {
		return answer{err: 1}
	}
	r := api.Route{Nodes: nodes, Name: name, Map: known, Node: 1, Left: tries}
	if !atlas.Check(known) {
		r.Map, r.Fetch = api.Atlas{}, true
	}
	return answer{r: r}
}

func paperCheck(r api.Route) bool {
	for _, broken := range []bool{
		r.Nodes <= 0 || r.Nodes > 7,
		r.Node <= 0 || r.Node > r.Nodes,
		r.Left < 0 || r.Left > 64,
		!paperNone(r.Map) && !atlas.Check(r.Map),
		(paperNone(r.Map) || !paperName(r.Name)) && !r.Fetch && !r.Done,
		r.Left == 0 && !r.Done,
	} {
		if broken {
			return false
		}
	}
	return true
}

func paperWhere(r api.Route) answer {
	if !paperCheck(r) || r.Done {
		return answer{}
	}
	if r.Fetch {
		return answer{node: r.Node}
	}
	s := paperSpan(r.Map, r.Name)
	return answer{group: s.Group, node: r.Node, shard: s.Shard, epoch: s.Epoch}
}

func paperHeard(r api.Route, p api.Reply) answer {
	if !paperCheck(r) || r.Done {
		return answer{r: r}
	}
	after := r.Node%r.Nodes + 1
	old := p.Result.Err == 172 || p.Result.Err == 171 || p.Result.Err == 173
	if p.Kind == 2 && !r.Fetch && !old {
		r.Done, r.Result = true, p.Result
		return answer{r: r}
	}
	if p.Kind == 2 && !r.Fetch {
		r.Fetch, r.Node = true, 1
	} else if p.Kind == 3 && r.Fetch && atlas.Check(p.Map) {
		r.Map, r.Node = p.Map, 1
		if paperName(r.Name) {
			r.Fetch = false
		}
	} else if p.Kind == 1 && 0 < p.Hint && p.Hint <= r.Nodes && p.Hint != r.Node {
		r.Node = p.Hint
	} else {
		r.Node = after
	}
	if r.Left--; r.Left == 0 {
		r.Done, r.Result, r.Fetch = true, api.Result{Err: 181}, false
	}
	return answer{r: r}
}

// edges are a number's neighbours and those of a number of few bits that would be taken for it.
func edges(n int) []int {
	return []int{n - 1, n, n + 1, 1<<32 + n, -1<<32 + n, 256 + n, math.MaxInt, math.MinInt, -n}
}
