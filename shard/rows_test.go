package shard_test

import (
	"math"
	"slices"
	"testing"

	"matins/api"
)

// scene is a group's shards with an order to them.
type scene struct {
	list []api.Shard
	o    api.Order
}

// fault is one thing for which an order is refused, in several guises.
type fault struct {
	err    api.Errno
	guises []func(*scene)
}

// inOrder looks at a row's errors: each alone, in each of its guises; each two at once; and each set of them. The first one of the row is told.
func inOrder(t *testing.T, base func() scene, faults []fault) {
	t.Helper()
	s := base()
	wantCheck(t, s.list, true)
	must(t, s.list, s.o)
	for i, a := range faults {
		for _, spoilA := range a.guises {
			s := base()
			spoilA(&s)
			refuse(t, s.list, s.o, a.err)
			for _, b := range faults[i+1:] {
				for _, spoilB := range b.guises {
					s := base()
					spoilA(&s)
					spoilB(&s)
					refuse(t, s.list, s.o, a.err)
				}
			}
		}
	}
	for set := 1; set < 1<<len(faults); set++ {
		s, first := base(), api.OK
		for i, f := range faults {
			if set>>i&1 == 1 {
				f.guises[set%len(f.guises)](&s)
				if first == api.OK {
					first = f.err
				}
			}
		}
		refuse(t, s.list, s.o, first)
	}
}

// orders are guises that set something of the order.
func orders[T any](set func(*api.Order, T), values ...T) []func(*scene) {
	var all []func(*scene)
	for _, v := range values {
		all = append(all, func(s *scene) { set(&s.o, v) })
	}
	return all
}

// change is a guise that alters the shard with an Id, unless it is gone.
func change(id int, set func(*api.Shard)) func(*scene) {
	return func(s *scene) {
		if x := copied(of(s.list, id)); x.Id == id && x.State != api.Gone {
			set(&x)
			s.list = with(s.list, x)
		}
	}
}

func state(id, n int) func(*scene) { return change(id, func(x *api.Shard) { x.State = n }) }

// goes is a guise in which the shard with an Id is gone.
func goes(id int) func(*scene) {
	return change(id, func(x *api.Shard) { x.State, x.Jobs, x.Seen = api.Gone, nil, nil })
}

// missing is a guise in which there is no shard with an Id.
func missing(id int) func(*scene) {
	return func(s *scene) {
		s.list = slices.DeleteFunc(slices.Clone(s.list), func(x api.Shard) bool { return x.Id == id })
	}
}

func setShard(o *api.Order, n int)   { o.Shard = n }
func setEpoch(o *api.Order, n int64) { o.Epoch = n }
func setOther(o *api.Order, n int)   { o.Other = n }
func setPast(o *api.Order, n int64)  { o.Past = n }
func setKey(o *api.Order, s string)  { o.Key = s }

// noShard is the first fault of the rows that begin with "there".
func noShard(id int) fault {
	return fault{api.ErrShard, append(orders(setShard, 0, -1, 99, math.MaxInt, math.MinInt, id+1<<32), goes(id), missing(id))}
}

// wrongEpochs are guises of an order to a shard with the Epoch 5.
var wrongEpochs = orders(setEpoch, 4, 6, 0, -1, 5+1<<32, 1<<40, math.MaxInt64, math.MinInt64)

// turned is a list with one shard altered.
func turned(list []api.Shard, id int, set func(*api.Shard)) []api.Shard {
	s := scene{list: list}
	change(id, set)(&s)
	return s.list
}

func TestOtherKinds(t *testing.T) {
	for _, kind := range []int{0, 9, 10, -1, -8, 17, 256 + 1, 1<<32 + 1, 1 << 62, math.MaxInt, math.MinInt} {
		for _, list := range [][]api.Shard{nil, served(), fill(nil, 16, 64)} {
			refuse(t, list, api.Order{Kind: kind}, api.ErrArg)
			refuse(t, list, api.Order{Kind: kind, Shard: 2, Epoch: 5, Other: 9, Past: 6, Key: "d", Cmd: cmdAdd(1, 1, "c"), State: shardOf(8, 1, api.Held, "", "")}, api.ErrArg)
		}
	}
}

// On no shards at all each order says what there isn't.
func TestNoShards(t *testing.T) {
	for kind := 1; kind <= 8; kind++ {
		for _, list := range [][]api.Shard{nil, {}, {shardOf(1, 1, api.Gone, "", "")}} {
			switch o := (api.Order{Kind: kind, Shard: 1, Epoch: 1, Other: 2, Past: 1, Key: "m", Cmd: cmdAdd(1, 1, "a")}); kind {
			case api.OrdInstall:
				refuse(t, list, o, api.ErrArg)
			case api.OrdRetire:
				turns(t, list, o, []api.Shard{{Id: 1, Epoch: 1, State: api.Gone}})
			default:
				refuse(t, list, o, api.ErrShard)
			}
		}
	}
}

func TestFreeze(t *testing.T) {
	o := api.Order{Kind: api.OrdFreeze, Shard: 2, Epoch: 5}
	for _, was := range []int{api.Serving, api.Frozen} {
		list := turned(served(), 2, func(x *api.Shard) { x.State = was })
		frozen := turned(list, 2, func(x *api.Shard) { x.State = api.Frozen })
		got := do(t, list, o)
		if !got.same(answer{list: frozen, shown: of(frozen, 2)}) {
			t.Errorf("P18.1: OrdFreeze: %s", got.told())
		}
		if x := of(list, 2); !slices.Equal(got.shown.Jobs, x.Jobs) || !sameBook(got.shown.Seen, x.Seen) || len(x.Jobs) != 5 || len(x.Seen) != 3 {
			t.Errorf("P18.3: OrdFreeze: %s", got.told())
		}
		refuse(t, got.list, ordCmd(2, 5, cmdOf(api.CmdGet, 3, 1, "c")), api.ErrFrozen)
	}
	inOrder(t, func() scene { return scene{served(), o} }, []fault{noShard(2), {api.ErrEpoch, wrongEpochs}, {api.ErrState, []func(*scene){state(2, api.Held)}}})
}

func TestThaw(t *testing.T) {
	list := turned(served(), 2, func(x *api.Shard) { x.State = api.Frozen })
	for _, past := range []int64{6, 7, 100, 1 << 32, 1<<40 - 1, 1 << 40} {
		o := api.Order{Kind: api.OrdThaw, Shard: 2, Epoch: 5, Past: past}
		want := turned(list, 2, func(x *api.Shard) { x.State, x.Epoch = api.Serving, past })
		turns(t, list, o, want)
		// Again it is OK, whatever its Epoch is; a later one isn't.
		for _, epoch := range []int64{5, past, 4, 0, -1, math.MaxInt64} {
			idle(t, want, api.Order{Kind: api.OrdThaw, Shard: 2, Epoch: epoch, Past: past})
		}
		refuse(t, want, api.Order{Kind: api.OrdThaw, Shard: 2, Epoch: 5, Past: past + 1}, api.ErrEpoch)
		refuse(t, want, api.Order{Kind: api.OrdThaw, Shard: 2, Epoch: past, Past: past + 1}, api.ErrState)
		refuse(t, want, api.Order{Kind: api.OrdThaw, Shard: 3, Epoch: 4, Past: past}, api.ErrEpoch)
	}
	// With the Epoch Past it isn't OK, unless it serves.
	for _, was := range []int{api.Frozen, api.Held, api.Gone} {
		here := with(list, shardOf(2, 6, was, "b", "m"))
		refuse(t, here, api.Order{Kind: api.OrdThaw, Shard: 2, Epoch: 5, Past: 6}, map[int]api.Errno{api.Frozen: api.ErrEpoch, api.Held: api.ErrEpoch, api.Gone: api.ErrShard}[was])
		refuse(t, here, api.Order{Kind: api.OrdThaw, Shard: 2, Epoch: 6, Past: 6}, map[int]api.Errno{api.Frozen: api.ErrArg, api.Held: api.ErrState, api.Gone: api.ErrShard}[was])
	}
	inOrder(t, func() scene { return scene{list, api.Order{Kind: api.OrdThaw, Shard: 2, Epoch: 5, Past: 6}} }, []fault{
		noShard(2),
		{api.ErrEpoch, wrongEpochs},
		{api.ErrState, []func(*scene){state(2, api.Serving), state(2, api.Held)}},
		{api.ErrArg, orders(setPast, 4, 1, 0, -1, 1<<40+1, math.MaxInt64, math.MinInt64)},
	})
	refuse(t, list, api.Order{Kind: api.OrdThaw, Shard: 2, Epoch: 5, Past: 5}, api.ErrArg)
	last := with(list, shardOf(2, 1<<40, api.Frozen, "b", "m", "c"))
	refuse(t, last, api.Order{Kind: api.OrdThaw, Shard: 2, Epoch: 1 << 40, Past: 1<<40 + 1}, api.ErrArg)
	refuse(t, last, api.Order{Kind: api.OrdThaw, Shard: 2, Epoch: 1 << 40, Past: 1 << 40}, api.ErrArg)
}

func TestOpen(t *testing.T) {
	o := api.Order{Kind: api.OrdOpen, Shard: 2, Epoch: 5}
	idle(t, served(), o)
	held := turned(served(), 2, func(x *api.Shard) { x.State = api.Held })
	turns(t, held, o, served())
	refuse(t, held, ordCmd(2, 5, cmdOf(api.CmdGet, 3, 1, "c")), api.ErrFrozen)
	inOrder(t, func() scene { return scene{held, o} }, []fault{noShard(2), {api.ErrEpoch, wrongEpochs}, {api.ErrState, []func(*scene){state(2, api.Frozen)}}})
}

// Fields that a row doesn't name play no part.
func TestOtherFields(t *testing.T) {
	list := served()
	odd := api.Order{Other: -3, Past: -9, Key: "K", Cmd: api.Cmd{Kind: 77, Client: -1, Name: "N"}, State: api.Shard{Id: -1, Jobs: []api.Job{{}}, Seen: []api.Seen{{}}}}
	odd.Shard, odd.Epoch = 2, 5
	odd.Kind = api.OrdFreeze
	must(t, list, odd)
	odd.Kind = api.OrdOpen
	idle(t, list, odd)
	odd.Kind, odd.Shard, odd.Epoch = api.OrdRetire, 3, 5
	must(t, list, odd)
	odd.Kind, odd.Past = api.OrdThaw, 6
	must(t, list, odd)
	odd.Kind, odd.Cmd, odd.Shard = api.OrdCmd, cmdAdd(1, 1, "e"), 2
	must(t, list, odd)
	odd.Kind, odd.Other, odd.Key = api.OrdSplit, 9, "d"
	must(t, list, odd)
	odd.Kind, odd.Shard, odd.Other, odd.Key, odd.State.Epoch = api.OrdMerge, 1, 2, "K", 5
	must(t, list, odd)
	odd.Kind, odd.Shard, odd.Epoch, odd.Other, odd.Past, odd.State = api.OrdInstall, -5, -5, -5, -5, shardOf(9, 1, api.Frozen, "", "", "a")
	must(t, list, odd)
}

// Where a row doesn't name one that is gone it is as if it weren't there.
func TestGone(t *testing.T) {
	list := served()
	for _, epoch := range []int64{4, 5, 6} {
		for _, o := range []api.Order{
			{Kind: api.OrdCmd, Cmd: cmdOf(api.CmdGet, 3, 1, "c")}, {Kind: api.OrdCmd, Cmd: cmdOf(api.CmdList, 3, 1, "c")}, {Kind: api.OrdCmd, Cmd: launchOf(jobOf("c"), 1440)},
			{Kind: api.OrdFreeze}, {Kind: api.OrdThaw, Past: 5}, {Kind: api.OrdThaw, Past: 6}, {Kind: api.OrdThaw, Past: 7}, {Kind: api.OrdOpen},
			{Kind: api.OrdSplit, Other: 9, Past: 7, Key: "d"}, {Kind: api.OrdSplit, Other: 6, Past: 5, Key: "b"}, {Kind: api.OrdSplit, Other: 2, Past: 5, Key: "b"},
			{Kind: api.OrdMerge, Other: 3, Past: 7, State: api.Shard{Epoch: 5}}, {Kind: api.OrdMerge, Other: 99, Past: 5}, {Kind: api.OrdMerge, Other: 6, Past: 5},
		} {
			o.Shard, o.Epoch = 6, epoch
			refuse(t, list, o, api.ErrShard)
		}
	}
}
