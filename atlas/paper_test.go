package atlas_test

import (
	"slices"
	"strings"

	"matins/api"
)

// The paper reads the chapter plainly, sentence by sentence. What it answers may share memory with what it is given.

const top = 1 << 40 // the last Epoch, and the last Shard

func paperName(s string) bool {
	strange := func(r rune) bool { return !strings.ContainsRune("abcdefghijklmnopqrstuvwxyz0123456789-.", r) }
	return 1 <= len(s) && len(s) <= 16 && !strings.ContainsFunc(s, strange)
}

// paperIn tells whether a name lies in a span's range.
func paperIn(s api.Span, name string) bool {
	return !(name < s.From) && (len(s.To) == 0 || name < s.To)
}

// paperOf is where the span of a shard stands, from 1 on; 0: there is none.
func paperOf(spans []api.Span, shard int) int {
	for i := range spans {
		if spans[i].Shard == shard {
			return i + 1
		}
	}
	return 0
}

func paperCheck(a api.Atlas) bool { return paperMap(a) && paperPlan(a) }

func paperMap(a api.Atlas) bool {
	if a.Groups <= 0 || a.Groups > 8 || len(a.Spans) == 0 || len(a.Spans) > 16 || a.Last > top {
		return false
	}
	if a.Spans[0].From != "" || a.Spans[len(a.Spans)-1].To != "" {
		return false
	}
	for i := 1; i < len(a.Spans); i++ {
		ahead := a.Spans[i-1]
		if a.Spans[i].From != ahead.To || !paperName(ahead.To) || !(ahead.From < ahead.To) {
			return false
		}
	}
	taken := map[int]bool{}
	for _, s := range a.Spans {
		if taken[s.Shard] || s.Shard <= 0 || s.Shard > a.Last || s.Epoch <= 0 || s.Epoch > top || s.Group <= 0 || s.Group > a.Groups {
			return false
		}
		taken[s.Shard] = true
	}
	return true
}

func paperPlan(a api.Atlas) bool {
	p := a.Plan
	if p.Kind == 0 {
		return p.Phase == 0 && p.Shard == 0 && p.Other == 0 && p.Group == 0 && p.Past == 0 && p.Epoch == 0 && p.Key == ""
	}
	at := paperOf(a.Spans, p.Shard)
	if at == 0 || p.Epoch <= 0 || p.Epoch > top-2 {
		return false
	}
	if p.Kind == 1 {
		return paperMove(a, a.Spans[at-1])
	}
	return paperOther(a, at)
}

func paperMove(a api.Atlas, s api.Span) bool {
	p := a.Plan
	if p.Group == p.Past || p.Group <= 0 || p.Group > a.Groups || p.Past <= 0 || p.Past > a.Groups || p.Other != 0 || p.Key != "" {
		return false
	}
	switch p.Phase {
	case 1:
		return s.Group == p.Past && s.Epoch == p.Epoch
	case 2, 3:
		return s.Group == p.Group && s.Epoch-1 == p.Epoch
	case 9:
		return s.Group == p.Past && s.Epoch-2 == p.Epoch
	}
	return false
}

// paperOther reads splits and merges; at is from 1 on.
func paperOther(a api.Atlas, at int) bool {
	p, s := a.Plan, a.Spans[at-1]
	risen := map[int]int64{1: 0, 9: 2}
	rise, ok := risen[p.Phase]
	if !ok || s.Group != p.Group || s.Epoch-rise != p.Epoch || p.Past != 0 {
		return false
	}
	switch p.Kind {
	case 2:
		return p.Other == a.Last && paperOf(a.Spans, p.Other) == 0 && paperName(p.Key) && paperIn(s, p.Key) && p.Key != s.From && len(a.Spans) < 16
	case 3:
		if at == len(a.Spans) || p.Key != "" {
			return false
		}
		behind := a.Spans[at]
		return behind.Shard == p.Other && behind.Group == s.Group && behind.Epoch <= top-2
	}
	return false
}

func paperNew(groups int) answer {
	if groups < 1 || groups > 8 {
		return answer{err: api.ErrArg}
	}
	return answer{a: api.Atlas{Groups: groups, Last: 1, Spans: []api.Span{{From: "", To: "", Shard: 1, Epoch: 1, Group: 1}}}}
}

func paperFind(a api.Atlas, key string) answer {
	if !paperCheck(a) || !paperName(key) {
		return answer{}
	}
	for _, s := range a.Spans {
		if paperIn(s, key) {
			return answer{span: s, ok: true}
		}
	}
	return answer{}
}

// paperRefuses is the first error of the chapter's order with which a plan is refused to begin; at is from 1 on.
func paperRefuses(a api.Atlas, p api.Plan) api.Errno {
	at := paperOf(a.Spans, p.Shard)
	kind := func(k int) bool { return p.Kind == k }
	span := func(i int) api.Span { // the i-th from 1 on; an empty one, if there is none
		if i < 1 || i > len(a.Spans) {
			return api.Span{}
		}
		return a.Spans[i-1]
	}
	s, behind := span(at), span(at+1)
	for _, rule := range []struct {
		broken bool
		err    api.Errno
	}{
		{!paperCheck(a), api.ErrState},
		{a.Plan.Kind != 0, api.ErrBusy},
		{!kind(1) && !kind(2) && !kind(3), api.ErrArg},
		{at == 0, api.ErrShard},
		{s.Epoch > top-2 || kind(3) && behind.Epoch > top-2, api.ErrArg},
		{kind(1) && (p.Group < 1 || p.Group > a.Groups || p.Group == s.Group), api.ErrArg},
		{kind(2) && !(paperName(p.Key) && paperIn(s, p.Key) && p.Key > s.From), api.ErrRange},
		{kind(2) && (len(a.Spans) == 16 || a.Last == top), api.ErrFull},
		{kind(3) && (behind.Shard == 0 || behind.Group != s.Group), api.ErrRange},
	} {
		if rule.broken {
			return rule.err
		}
	}
	return api.OK
}

func paperBegin(a api.Atlas, p api.Plan) answer {
	err := paperRefuses(a, p)
	if err == api.ErrState {
		return answer{err: err}
	}
	if err != api.OK {
		return answer{a: a, err: err}
	}
	at := paperOf(a.Spans, p.Shard)
	s := a.Spans[at-1]
	begun := api.Plan{Kind: p.Kind, Phase: 1, Shard: p.Shard, Epoch: s.Epoch}
	switch p.Kind {
	case 1:
		begun.Group, begun.Past = p.Group, s.Group
	case 2:
		a.Last++
		begun.Other, begun.Key, begun.Group = a.Last, p.Key, s.Group
	case 3:
		begun.Other, begun.Group = a.Spans[at].Shard, s.Group
	}
	a.Plan = begun
	return answer{a: a}
}

func paperAdvance(a api.Atlas, phase int) answer {
	switch {
	case !paperCheck(a):
		return answer{err: api.ErrState}
	case a.Plan.Kind == 0 || a.Plan.Phase != phase:
		return answer{a: a, err: api.ErrState}
	}
	p := a.Plan
	var spans []api.Span // laid anew, one by one
	over := true
	for i, s := range a.Spans {
		its := s.Shard == p.Shard && phase == 1
		switch {
		case its && p.Kind == 1:
			spans = append(spans, api.Span{From: s.From, To: s.To, Shard: s.Shard, Epoch: s.Epoch + 1, Group: p.Group})
		case its && p.Kind == 2:
			spans = append(spans, api.Span{From: s.From, To: p.Key, Shard: p.Shard, Epoch: p.Epoch + 1, Group: s.Group})
			spans = append(spans, api.Span{From: p.Key, To: s.To, Shard: p.Other, Epoch: p.Epoch + 1, Group: s.Group})
		case its && p.Kind == 3:
			greater := s.Epoch
			if a.Spans[i+1].Epoch > greater {
				greater = a.Spans[i+1].Epoch
			}
			spans = append(spans, api.Span{From: s.From, To: a.Spans[i+1].To, Shard: s.Shard, Epoch: greater + 1, Group: s.Group})
		case p.Kind == 3 && phase == 1 && s.Shard == p.Other:
		default:
			spans = append(spans, s)
		}
	}
	if p.Kind == 1 && phase < 3 {
		over = false
		p.Phase++
	}
	a.Spans, a.Plan = spans, p
	if over {
		a.Plan = api.Plan{}
	}
	return answer{a: a}
}

func paperAbort(a api.Atlas) answer {
	if !paperCheck(a) {
		return answer{err: api.ErrState}
	}
	if a.Plan.Kind == 0 || a.Plan.Phase != 1 {
		return answer{a: a, err: api.ErrState}
	}
	a.Spans = slices.Clone(a.Spans)
	for i, s := range a.Spans {
		if s.Shard == a.Plan.Shard {
			a.Spans[i].Epoch = s.Epoch + 2
		}
	}
	a.Plan.Phase = 9
	return answer{a: a}
}
