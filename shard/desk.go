package shard

import (
	"cmp"
	"slices"

	"matins/api"
	"matins/jobs"
	"matins/seat"
)

// desk is a group's shards with an order that is done to them.
type desk struct {
	shards []api.Shard // the desk's own
	order  api.Order
	shown  api.Shard // the one that is answered
}

// deeds is what the orders do, by their Kinds. A deed that is refused leaves the shards as they are.
func deeds() [api.OrdMerge + 1]func(*desk) api.Result {
	return [...]func(*desk) api.Result{
		api.OrdCmd:     (*desk).cmd,
		api.OrdFreeze:  (*desk).freeze,
		api.OrdThaw:    (*desk).thaw,
		api.OrdInstall: (*desk).install,
		api.OrdOpen:    (*desk).open,
		api.OrdRetire:  (*desk).retire,
		api.OrdSplit:   (*desk).split,
		api.OrdMerge:   (*desk).merge,
	}
}

// find is the place of the shard with an Id, or the one where it would stand, and whether it is there or gone.
func (d *desk) find(id int) (int, bool) {
	return slices.BinarySearchFunc(d.shards, id, func(s api.Shard, id int) int { return cmp.Compare(s.Id, id) })
}

// known is the shard with an Id, as it stands on the desk, be it gone or not; nil: there never was one.
func (d *desk) known(id int) *api.Shard {
	place, found := d.find(id)
	if !found {
		return nil
	}
	return &d.shards[place]
}

// live is the shard with an Id that isn't gone; nil: there is none.
func (d *desk) live(id int) *api.Shard {
	s := d.known(id)
	if s == nil || s.State == api.Gone {
		return nil
	}
	return s
}

// there is the shard that the order names, or how the order is refused if it isn't there with the order's Epoch.
func (d *desk) there() (*api.Shard, api.Errno) {
	s := d.live(d.order.Shard)
	switch {
	case s == nil:
		return nil, api.ErrShard
	case s.Epoch != d.order.Epoch:
		return nil, api.ErrEpoch
	}
	return s, api.OK
}

// put lays a shard in the place of the one with its Id, or among the others.
func (d *desk) put(s api.Shard) {
	place, found := d.find(s.Id)
	if found {
		d.shards[place] = s
		return
	}
	d.shards = slices.Insert(d.shards, place, s)
}

// crowded tells whether the group has as many shards that aren't gone as it may.
func (d *desk) crowded() bool { return countLive(d.shards) >= api.MaxShards }

// packed tells whether it has as many as it may with those that are gone.
func (d *desk) packed() bool { return len(d.shards) >= api.MaxGone }

func (d *desk) cmd() api.Result {
	s, err := d.there()
	c := d.order.Cmd
	switch {
	case err != api.OK:
		return refused(err)
	case s.State != api.Serving:
		return refused(api.ErrFrozen)
	case c.Kind != api.CmdList && !In(*s, c.Name):
		return refused(api.ErrRange)
	case c.Kind == api.CmdLaunch:
		return done(s, c)
	}
	return once(s, c)
}

func done(s *api.Shard, c api.Cmd) api.Result {
	var r api.Result
	s.Jobs, r = jobs.Do(s.Jobs, c)
	return r
}

// once does a client's command if it is a new one. What it answers is kept, an error too: to do it later might come out otherwise.
func once(s *api.Shard, c api.Cmd) api.Result {
	r, err := seat.Look(s.Seen, c.Client, c.Seq)
	switch err {
	case api.OK:
		return r
	case api.ErrNone:
	default:
		return refused(err)
	}
	if c.Kind == api.CmdList {
		c.Name = max(c.Name, s.From)
	}
	r = done(s, c)
	s.Seen, _ = seat.Put(s.Seen, api.Seen{Client: c.Client, Seq: c.Seq, Result: r})
	return r
}

func (d *desk) freeze() api.Result {
	s, err := d.there()
	switch {
	case err != api.OK:
		return refused(err)
	case s.State == api.Held:
		return refused(api.ErrState)
	}
	s.State = api.Frozen
	d.shown = copied(*s)
	return api.Result{}
}

func (d *desk) thaw() api.Result {
	past := d.order.Past
	if s := d.live(d.order.Shard); s != nil && s.State == api.Serving && s.Epoch == past {
		return api.Result{}
	}
	s, err := d.there()
	switch {
	case err != api.OK:
		return refused(err)
	case s.State != api.Frozen:
		return refused(api.ErrState)
	case !rises(s.Epoch, past):
		return refused(api.ErrArg)
	}
	s.State, s.Epoch = api.Serving, past
	return api.Result{}
}

func (d *desk) install() api.Result {
	s := d.order.State
	if !right(s) || s.State == api.Gone {
		return refused(api.ErrArg)
	}
	old := d.known(s.Id)
	switch {
	case old == nil:
		if d.crowded() || d.packed() {
			return refused(api.ErrFull)
		}
	case old.State == api.Gone:
		if old.Epoch >= s.Epoch {
			return refused(api.ErrEpoch)
		}
		if d.crowded() {
			return refused(api.ErrFull)
		}
	case old.Epoch == s.Epoch:
		return api.Result{}
	case old.Epoch > s.Epoch:
		return refused(api.ErrEpoch)
	case old.State == api.Serving:
		return refused(api.ErrState)
	}
	s = copied(s)
	s.State = api.Held
	d.put(s)
	return api.Result{}
}

func (d *desk) open() api.Result {
	s, err := d.there()
	switch {
	case err != api.OK:
		return refused(err)
	case s.State == api.Frozen:
		return refused(api.ErrState)
	}
	s.State = api.Serving
	return api.Result{}
}

func (d *desk) retire() api.Result {
	o := d.order
	if o.Shard < 1 || !isEpoch(o.Epoch) {
		return refused(api.ErrArg)
	}
	s := api.Shard{Id: o.Shard, Epoch: o.Epoch, State: api.Gone}
	if old := d.known(o.Shard); old != nil {
		s = *old
	} else if d.packed() {
		return refused(api.ErrFull)
	}
	switch {
	case s.State == api.Gone:
		s.Epoch = max(s.Epoch, o.Epoch)
	case s.Epoch != o.Epoch:
		return refused(api.ErrEpoch)
	case s.State == api.Serving:
		return refused(api.ErrState)
	}
	d.put(gone(s))
	return api.Result{}
}

// gone is what is remembered of a shard.
func gone(s api.Shard) api.Shard {
	return api.Shard{Id: s.Id, Epoch: s.Epoch, State: api.Gone, From: s.From, To: s.To}
}

func (d *desk) split() api.Result {
	o := d.order
	if d.isSplit() {
		return api.Result{}
	}
	s, err := d.there()
	switch {
	case err != api.OK:
		return refused(err)
	case s.State != api.Serving:
		return refused(api.ErrState)
	case !rises(s.Epoch, o.Past) || o.Other < 1:
		return refused(api.ErrArg)
	case d.known(o.Other) != nil:
		return refused(api.ErrExists)
	case !In(*s, o.Key) || o.Key == s.From:
		return refused(api.ErrRange)
	case d.crowded() || d.packed():
		return refused(api.ErrFull)
	}
	upper := copied(*s)
	upper.Id, upper.Epoch, upper.From = o.Other, o.Past, o.Key
	s.Epoch, s.To = o.Past, o.Key
	upper.Jobs = kept(upper)
	s.Jobs = kept(*s)
	d.put(upper)
	return api.Result{}
}

// isSplit tells whether the order to split has been done.
func (d *desk) isSplit() bool {
	s, upper := d.live(d.order.Shard), d.live(d.order.Other)
	return s != nil && s.Epoch == d.order.Past && upper != nil && upper.Epoch == d.order.Past && upper.From == d.order.Key
}

// kept are the jobs of a shard that lie in its range.
func kept(s api.Shard) []api.Job {
	return slices.DeleteFunc(s.Jobs, func(j api.Job) bool { return !within(s, j.Name) })
}

func (d *desk) merge() api.Result {
	o := d.order
	other := d.live(o.Other)
	if s := d.live(o.Shard); s != nil && s.Epoch == o.Past && other == nil {
		return api.Result{}
	}
	s, err := d.there()
	switch {
	case err != api.OK:
		return refused(err)
	case other == nil || o.Other == o.Shard:
		return refused(api.ErrShard)
	case other.Epoch != o.State.Epoch:
		return refused(api.ErrEpoch)
	case s.State != api.Serving || other.State != api.Serving:
		return refused(api.ErrState)
	case !rises(max(s.Epoch, other.Epoch), o.Past):
		return refused(api.ErrArg)
	case s.To == "" || s.To != other.From:
		return refused(api.ErrRange)
	case len(s.Jobs)+len(other.Jobs) > api.MaxJobs:
		return refused(api.ErrFull)
	}
	s.Epoch, s.To = o.Past, other.To
	s.Jobs = append(s.Jobs, other.Jobs...)
	s.Seen, _ = seat.Join(s.Seen, other.Seen)
	*other = gone(*other)
	return api.Result{}
}

func refused(err api.Errno) api.Result { return api.Result{Err: err} }
