// Package tally is layer 1: counters that many workers may use at one time. See shared/doc/01-tally.md.
package tally

import (
	"slices"
	"sync"
	"sync/atomic"

	"matins/api"
)

// maxEach is the most tickets that one worker of a draw takes.
const maxEach = 1000

// Tally holds counters. All its calls may be made by many goroutines at one time; of a nil tally they answer ErrArg and zero values.
type Tally struct {
	counters [api.Slots]atomic.Int64
	tickets  atomic.Int64
	guard    sync.Mutex // of most: no atomic number keeps the greater of two in one step
	most     int64
	said     sync.Once // of first
	first    int64
}

// New: a tally whose counters are 0.
func New() *Tally { return &Tally{} }

// Add: a counter rises. ErrArg.
func (t *Tally) Add(slot int, n int64) api.Errno {
	s := api.Step{Slot: slot, N: n}
	if t == nil || !mayAdd(s) {
		return api.ErrArg
	}
	t.add(s)
	return api.OK
}

// Get: a counter.
func (t *Tally) Get(slot int) int64 {
	if t == nil || !isSlot(slot) {
		return 0
	}
	return t.counters[slot].Load()
}

// Most: the greatest number that was added.
func (t *Tally) Most() int64 {
	if t == nil {
		return 0
	}
	t.guard.Lock()
	defer t.guard.Unlock()
	return t.most
}

// Spread: all steps, by so many workers. ErrArg.
func (t *Tally) Spread(steps []api.Step, workers int) api.Errno {
	if t == nil || !mayWork(workers) || !mayAddAll(steps) {
		return api.ErrArg
	}
	together(workers, func(worker int) {
		for i := worker; i < len(steps); i += workers {
			t.add(steps[i])
		}
	})
	return api.OK
}

// First: the first word that was said.
func (t *Tally) First(n int64) int64 {
	if t == nil {
		return 0
	}
	t.said.Do(func() { t.first = n })
	return t.first
}

// Ticket: the next ticket.
func (t *Tally) Ticket() int64 {
	if t == nil {
		return 0
	}
	return t.tickets.Add(1)
}

// Draw: tickets that so many workers take, each so many. ErrArg.
func (t *Tally) Draw(workers, each int) ([]int64, api.Errno) {
	if t == nil || !mayWork(workers) || each < 0 || each > maxEach {
		return nil, api.ErrArg
	}
	drawn := make([]int64, workers*each)
	together(workers, func(worker int) {
		own := drawn[worker*each : (worker+1)*each]
		for i := range own {
			own[i] = t.Ticket()
		}
	})
	// Which worker took which ticket hangs on how they ran, and must not be seen.
	slices.Sort(drawn)
	return drawn, api.OK
}

// add does a step that was found right.
func (t *Tally) add(s api.Step) {
	t.counters[s.Slot].Add(s.N)
	t.raiseMost(s.N)
}

func (t *Tally) raiseMost(n int64) {
	t.guard.Lock()
	defer t.guard.Unlock()
	t.most = max(t.most, n)
}

func isSlot(slot int) bool { return slot >= 0 && slot < api.Slots }

func mayWork(workers int) bool { return workers >= 1 && workers <= api.MaxWorkers }

func mayAdd(s api.Step) bool { return isSlot(s.Slot) && s.N >= 0 && s.N <= api.MaxAdd }

func mayAddAll(steps []api.Step) bool {
	for _, s := range steps {
		if !mayAdd(s) {
			return false
		}
	}
	return true
}

// together runs work for each worker (0 to workers - 1) in a goroutine of its own, and answers when all have ended.
func together(workers int, work func(worker int)) {
	var group sync.WaitGroup
	group.Add(workers)
	for worker := range workers {
		go func() {
			defer group.Done()
			work(worker)
		}()
	}
	group.Wait()
}
