package shard_test

import (
	"slices"

	"matins/api"
	"matins/jobs"
	"matins/seat"
)

// The paper reads the chapter plainly, sentence by sentence; the layers below are taken at their word. What it answers may share memory with what it is given.

const paperLast = 1099511627776 // 2^40

func paperKey(s string) bool { return s == "" || jobs.Named(s) }

func paperRange(from, to, name string) bool {
	if name < from {
		return false
	}
	if to != "" {
		return name < to
	}
	return true
}

func paperIn(s api.Shard, name string) bool {
	if !paperKey(s.From) || !paperKey(s.To) {
		return false
	}
	if s.To != "" && s.To <= s.From {
		return false
	}
	return jobs.Named(name) && paperRange(s.From, s.To, name)
}

func paperRight(s api.Shard) bool {
	if s.Id <= 0 || s.Epoch <= 0 || s.Epoch > paperLast {
		return false
	}
	if s.State != 1 && s.State != 2 && s.State != 3 && s.State != 4 {
		return false
	}
	if !paperKey(s.From) || !paperKey(s.To) || !(s.To == "" || s.To > s.From) {
		return false
	}
	if s.State == 4 && (len(s.Jobs) != 0 || len(s.Seen) != 0) {
		return false
	}
	for _, j := range s.Jobs {
		if !paperRange(s.From, s.To, j.Name) {
			return false
		}
	}
	return jobs.Check(s.Jobs) && seat.Check(s.Seen)
}

func paperCheck(list []api.Shard) bool {
	live, last := 0, 0
	for _, s := range list {
		if !paperRight(s) || s.Id <= last {
			return false
		}
		last = s.Id
		if s.State != api.Gone {
			live++
		}
	}
	return live <= 16 && len(list) <= 64
}

// paperGroup is a group's shards by their Ids, those that are gone apart.
type paperGroup struct {
	there, gone map[int]api.Shard
}

func (g *paperGroup) list() []api.Shard {
	var all []api.Shard
	for _, s := range g.there {
		all = append(all, s)
	}
	for _, s := range g.gone {
		all = append(all, s)
	}
	slices.SortFunc(all, func(a, b api.Shard) int {
		if a.Id < b.Id {
			return -1
		}
		return 1
	})
	return all
}

func paperDo(list []api.Shard, o api.Order) ([]api.Shard, api.Result, api.Shard) {
	if !paperCheck(list) {
		return nil, api.Result{Err: api.ErrState}, api.Shard{}
	}
	g := &paperGroup{map[int]api.Shard{}, map[int]api.Shard{}}
	for _, s := range list {
		if s.State == api.Gone {
			g.gone[s.Id] = s
		} else {
			g.there[s.Id] = s
		}
	}
	var r api.Result
	var shown api.Shard
	switch o.Kind {
	case 1:
		r = g.cmd(o)
	case 2:
		r.Err = g.freeze(o)
		if r.Err == api.OK {
			shown = g.there[o.Shard]
		}
	case 3:
		r.Err = g.thaw(o)
	case 4:
		r.Err = g.install(o.State)
	case 5:
		r.Err = g.open(o)
	case 6:
		r.Err = g.retire(o)
	case 7:
		r.Err = g.split(o)
	case 8:
		r.Err = g.merge(o)
	default:
		r.Err = api.ErrArg
	}
	return g.list(), r, shown
}

// isThere is what a row begins with.
func (g *paperGroup) isThere(o api.Order) api.Errno {
	s, ok := g.there[o.Shard]
	if !ok {
		return api.ErrShard
	}
	if s.Epoch != o.Epoch {
		return api.ErrEpoch
	}
	return api.OK
}

func (g *paperGroup) cmd(o api.Order) api.Result {
	if err := g.isThere(o); err != api.OK {
		return api.Result{Err: err}
	}
	s, c := g.there[o.Shard], o.Cmd
	if s.State != api.Serving {
		return api.Result{Err: api.ErrFrozen}
	}
	var r api.Result
	if c.Kind == api.CmdLaunch {
		if !paperIn(s, c.Name) {
			return api.Result{Err: api.ErrRange}
		}
		s.Jobs, r = jobs.Do(s.Jobs, c)
		g.there[o.Shard] = s
		return r
	}
	if c.Kind != api.CmdList && !paperIn(s, c.Name) {
		return api.Result{Err: api.ErrRange}
	}
	kept, err := seat.Look(s.Seen, c.Client, c.Seq)
	if err == api.ErrArg || err == api.ErrStale {
		return api.Result{Err: err}
	}
	if err == api.OK {
		return kept
	}
	if c.Kind == api.CmdList && c.Name < s.From {
		c.Name = s.From
	}
	s.Jobs, r = jobs.Do(s.Jobs, c)
	s.Seen, _ = seat.Put(s.Seen, api.Seen{Client: c.Client, Seq: c.Seq, Result: r})
	g.there[o.Shard] = s
	return r
}

func (g *paperGroup) freeze(o api.Order) api.Errno {
	if err := g.isThere(o); err != api.OK {
		return err
	}
	s := g.there[o.Shard]
	if s.State == api.Held {
		return api.ErrState
	}
	s.State = api.Frozen
	g.there[o.Shard] = s
	return api.OK
}

func (g *paperGroup) thaw(o api.Order) api.Errno {
	s, ok := g.there[o.Shard]
	if ok && s.State == api.Serving && s.Epoch == o.Past {
		return api.OK
	}
	if err := g.isThere(o); err != api.OK {
		return err
	}
	if s.State != api.Frozen {
		return api.ErrState
	}
	if o.Past <= o.Epoch || o.Past > paperLast {
		return api.ErrArg
	}
	s.State = api.Serving
	s.Epoch = o.Past
	g.there[o.Shard] = s
	return api.OK
}

func (g *paperGroup) install(state api.Shard) api.Errno {
	if !paperRight(state) || state.State == api.Gone {
		return api.ErrArg
	}
	s, isThere := g.there[state.Id]
	was, isGone := g.gone[state.Id]
	if isThere {
		if s.Epoch == state.Epoch {
			return api.OK
		}
		if s.Epoch > state.Epoch {
			return api.ErrEpoch
		}
		if s.State == api.Serving {
			return api.ErrState
		}
	}
	if isGone && was.Epoch >= state.Epoch {
		return api.ErrEpoch
	}
	if !isThere && len(g.there) == 16 {
		return api.ErrFull
	}
	if !isThere && !isGone && len(g.there)+len(g.gone) == 64 {
		return api.ErrFull
	}
	state.State = api.Held
	g.there[state.Id] = state
	delete(g.gone, state.Id)
	return api.OK
}

func (g *paperGroup) open(o api.Order) api.Errno {
	if err := g.isThere(o); err != api.OK {
		return err
	}
	s := g.there[o.Shard]
	if s.State == api.Frozen {
		return api.ErrState
	}
	s.State = api.Serving
	g.there[o.Shard] = s
	return api.OK
}

func (g *paperGroup) retire(o api.Order) api.Errno {
	if o.Shard < 1 || o.Epoch < 1 || o.Epoch > paperLast {
		return api.ErrArg
	}
	if s, ok := g.there[o.Shard]; ok {
		if s.Epoch != o.Epoch {
			return api.ErrEpoch
		}
		if s.State == api.Serving {
			return api.ErrState
		}
		g.goes(o.Shard)
		return api.OK
	}
	if s, ok := g.gone[o.Shard]; ok {
		if o.Epoch > s.Epoch {
			s.Epoch = o.Epoch
		}
		g.gone[o.Shard] = s
		return api.OK
	}
	if len(g.there)+len(g.gone) == 64 {
		return api.ErrFull
	}
	g.gone[o.Shard] = api.Shard{Id: o.Shard, Epoch: o.Epoch, State: api.Gone}
	return api.OK
}

// goes lets a shard that is there be gone, with its Epoch and its range.
func (g *paperGroup) goes(id int) {
	s := g.there[id]
	s.State, s.Jobs, s.Seen = api.Gone, nil, nil
	g.gone[id] = s
	delete(g.there, id)
}

func (g *paperGroup) split(o api.Order) api.Errno {
	s, ok := g.there[o.Shard]
	if other, is := g.there[o.Other]; ok && is && s.Epoch == o.Past && other.Epoch == o.Past && other.From == o.Key {
		return api.OK
	}
	if err := g.isThere(o); err != api.OK {
		return err
	}
	if s.State != api.Serving {
		return api.ErrState
	}
	if o.Past <= o.Epoch || o.Past > paperLast || o.Other < 1 {
		return api.ErrArg
	}
	_, isThere := g.there[o.Other]
	_, isGone := g.gone[o.Other]
	if isThere || isGone {
		return api.ErrExists
	}
	if !jobs.Named(o.Key) || o.Key <= s.From || s.To != "" && o.Key >= s.To {
		return api.ErrRange
	}
	if len(g.there) == 16 || len(g.there)+len(g.gone) == 64 {
		return api.ErrFull
	}
	upper := api.Shard{Id: o.Other, Epoch: o.Past, State: api.Serving, From: o.Key, To: s.To, Seen: s.Seen}
	var lower []api.Job
	for _, j := range s.Jobs {
		if j.Name < o.Key {
			lower = append(lower, j)
		} else {
			upper.Jobs = append(upper.Jobs, j)
		}
	}
	s.Epoch, s.To, s.Jobs = o.Past, o.Key, lower
	g.there[o.Shard], g.there[o.Other] = s, upper
	return api.OK
}

func (g *paperGroup) merge(o api.Order) api.Errno {
	s, ok := g.there[o.Shard]
	other, is := g.there[o.Other]
	if ok && s.Epoch == o.Past && !is {
		return api.OK
	}
	if err := g.isThere(o); err != api.OK {
		return err
	}
	if !is || o.Other == o.Shard {
		return api.ErrShard
	}
	if other.Epoch != o.State.Epoch {
		return api.ErrEpoch
	}
	if s.State != api.Serving || other.State != api.Serving {
		return api.ErrState
	}
	if o.Past <= s.Epoch || o.Past <= other.Epoch || o.Past > paperLast {
		return api.ErrArg
	}
	if s.To == "" || s.To != other.From {
		return api.ErrRange
	}
	if len(s.Jobs)+len(other.Jobs) > 256 {
		return api.ErrFull
	}
	s.Epoch, s.To = o.Past, other.To
	s.Jobs = slices.Concat(s.Jobs, other.Jobs)
	s.Seen, _ = seat.Join(s.Seen, other.Seen)
	g.there[o.Shard] = s
	g.goes(o.Other)
	return api.OK
}

func paperDue(list []api.Shard, upto int64) []api.Order {
	var all []api.Order
	if !paperCheck(list) {
		return nil
	}
	for _, s := range list {
		if s.State != api.Serving {
			continue
		}
		for _, l := range jobs.Due(s.Jobs, upto) {
			var o api.Order
			o.Kind, o.Shard, o.Epoch = 1, s.Id, s.Epoch
			o.Cmd.Kind, o.Cmd.Client, o.Cmd.Seq, o.Cmd.Name, o.Cmd.Time = 8, l.Client, l.Seq, l.Name, l.Time
			all = append(all, o)
		}
	}
	return all
}
