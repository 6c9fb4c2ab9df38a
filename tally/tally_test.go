package tally_test

import (
	"math"
	"slices"
	"sync"
	"testing"

	"matins/api"
	"matins/tally"
)

// state is what can be seen of a tally without changing it.
type state struct {
	counters [api.Slots]int64
	most     int64
}

func look(a *tally.Tally) state {
	s := state{most: a.Most()}
	for i := range s.counters {
		s.counters[i] = a.Get(i)
	}
	return s
}

func wantState(t *testing.T, promise string, a *tally.Tally, want state) {
	t.Helper()
	if got := look(a); got != want {
		t.Errorf("%s: counters %v, most %d, want %v, %d", promise, got.counters, got.most, want.counters, want.most)
	}
}

// atOnce runs work so many times, all of them let go at the same moment.
func atOnce(times int, work func(i int)) {
	var group sync.WaitGroup
	start := make(chan struct{})
	for i := range times {
		group.Go(func() {
			<-start
			work(i)
		})
	}
	close(start)
	group.Wait()
}

// upTo is the n numbers behind from.
func upTo(from, n int64) []int64 {
	list := make([]int64, n)
	for i := range list {
		list[i] = from + int64(i) + 1
	}
	return list
}

func TestNewIsEmpty(t *testing.T) {
	a := tally.New()
	if a == nil {
		t.Fatal("New: nil")
	}
	wantState(t, "P1.1", a, state{})
	if got := a.First(0); got != 0 {
		t.Errorf("P1.3: First(0) of a new tally: %d", got)
	}
	if got := a.Ticket(); got != 1 {
		t.Errorf("P1.4: the first ticket: %d", got)
	}
}

func TestAddExample(t *testing.T) {
	a := tally.New()
	for _, s := range []api.Step{{Slot: 0, N: 5}, {Slot: 0, N: 7}, {Slot: 3, N: 6}} {
		if e := a.Add(s.Slot, s.N); e != api.OK {
			t.Errorf("P1.1: Add(%d, %d): %d", s.Slot, s.N, e)
		}
	}
	wantState(t, "P1.1", a, state{counters: [api.Slots]int64{0: 12, 3: 6}, most: 7})
}

func TestAddEdges(t *testing.T) {
	a := tally.New()
	want := state{}
	for _, s := range []api.Step{{Slot: 0, N: 0}, {Slot: 7, N: 0}, {Slot: 0, N: 1}, {Slot: 7, N: 2}, {Slot: 0, N: api.MaxAdd}, {Slot: 7, N: api.MaxAdd}, {Slot: 7, N: api.MaxAdd - 1}, {Slot: 4, N: 3}} {
		if e := a.Add(s.Slot, s.N); e != api.OK {
			t.Errorf("P1.1: Add(%d, %d): %d", s.Slot, s.N, e)
		}
		want.counters[s.Slot] += s.N
		want.most = max(want.most, s.N)
		wantState(t, "P1.1", a, want)
	}
}

func TestAddRisesAbove32Bits(t *testing.T) {
	a := tally.New()
	for range 9 {
		a.Add(7, api.MaxAdd)
	}
	wantState(t, "P1.1", a, state{counters: [api.Slots]int64{7: 9 * api.MaxAdd}, most: api.MaxAdd})
}

// wrongSteps are those that Add refuses.
func wrongSteps() []api.Step {
	return []api.Step{
		{Slot: -1, N: 1}, {Slot: 8, N: 1}, {Slot: 9, N: 0}, {Slot: math.MaxInt, N: 1}, {Slot: math.MinInt, N: 1},
		{Slot: 0, N: -1}, {Slot: 7, N: api.MaxAdd + 1}, {Slot: 0, N: math.MaxInt64}, {Slot: 0, N: math.MinInt64},
		{Slot: 8, N: api.MaxAdd + 1},
	}
}

func TestAddRefuses(t *testing.T) {
	a := tally.New()
	a.Add(0, 5)
	a.Add(7, 2)
	before := look(a)
	for _, s := range wrongSteps() {
		if e := a.Add(s.Slot, s.N); e != api.ErrArg {
			t.Errorf("P1.1: Add(%d, %d): %d", s.Slot, s.N, e)
		}
		wantState(t, "P1.1", a, before)
	}
}

func TestGetOfNoSlot(t *testing.T) {
	a := tally.New()
	for slot := range api.Slots {
		a.Add(slot, int64(slot)+1)
	}
	for _, slot := range []int{-1, 8, 9, math.MinInt, math.MaxInt} {
		if got := a.Get(slot); got != 0 {
			t.Errorf("P1.1: Get(%d): %d", slot, got)
		}
	}
}

func TestAddAtOneTime(t *testing.T) {
	const callers, times = 32, 500
	a := tally.New()
	atOnce(callers, func(i int) {
		for k := range times {
			a.Add(3, int64(i*times+k))
			a.Add(i%2, 1)
		}
	})
	const all = callers * times
	wantState(t, "P1.1", a, state{counters: [api.Slots]int64{0: all / 2, 1: all / 2, 3: all * (all - 1) / 2}, most: all - 1})
}

// Many short races: a greater number that another one overwrote would be missed here.
func TestMostAtOneTime(t *testing.T) {
	const rounds, callers = 50000, 8
	for range rounds {
		a := tally.New()
		atOnce(callers, func(i int) { a.Add(i%api.Slots, int64(i)+1) })
		if got := a.Most(); got != callers {
			t.Fatalf("P1.1: the most is %d, %d was added", got, callers)
		}
	}
}

func TestSpreadExample(t *testing.T) {
	a := tally.New()
	if e := a.Spread([]api.Step{{Slot: 1, N: 2}, {Slot: 1, N: 3}, {Slot: 2, N: 9}}, 4); e != api.OK {
		t.Errorf("P1.2: %d", e)
	}
	want := state{counters: [api.Slots]int64{1: 5, 2: 9}, most: 9}
	wantState(t, "P1.2", a, want)
	if e := a.Spread([]api.Step{{Slot: 1, N: 2}, {Slot: 9, N: 1}}, 4); e != api.ErrArg {
		t.Errorf("P1.2: a wrong step: %d", e)
	}
	if e := a.Spread([]api.Step{{Slot: 1, N: 2}}, 0); e != api.ErrArg {
		t.Errorf("P1.2: no workers: %d", e)
	}
	wantState(t, "P1.2", a, want)
}

func TestSpreadByAnyWorkers(t *testing.T) {
	for workers := 1; workers <= api.MaxWorkers; workers++ {
		for _, count := range []int{0, 1, workers - 1, workers, workers + 1, 1000} {
			a := tally.New()
			steps := make([]api.Step, count)
			want := state{}
			for i := range steps {
				steps[i] = api.Step{Slot: i % api.Slots, N: int64(i * 37 % 1009)}
				want.counters[steps[i].Slot] += steps[i].N
				want.most = max(want.most, steps[i].N)
			}
			kept := slices.Clone(steps)
			if e := a.Spread(steps, workers); e != api.OK {
				t.Errorf("P1.2: %d steps by %d workers: %d", count, workers, e)
			}
			wantState(t, "P1.2", a, want)
			if !slices.Equal(steps, kept) {
				t.Errorf("rule 5: %d steps by %d workers: the steps were changed", count, workers)
			}
		}
	}
}

func TestSpreadEdges(t *testing.T) {
	a := tally.New()
	steps := []api.Step{{Slot: 0, N: 0}, {Slot: 7, N: api.MaxAdd}, {Slot: 0, N: api.MaxAdd}, {Slot: 7, N: 0}}
	for _, workers := range []int{1, api.MaxWorkers} {
		if e := a.Spread(steps, workers); e != api.OK {
			t.Errorf("P1.2: by %d workers: %d", workers, e)
		}
		if e := a.Spread(nil, workers); e != api.OK {
			t.Errorf("P1.2: no steps by %d workers: %d", workers, e)
		}
	}
	wantState(t, "P1.2", a, state{counters: [api.Slots]int64{0: 2 * api.MaxAdd, 7: 2 * api.MaxAdd}, most: api.MaxAdd})
}

func TestSpreadRefusesWorkers(t *testing.T) {
	a := tally.New()
	a.Add(0, 5)
	before := look(a)
	for _, workers := range []int{0, -1, api.MaxWorkers + 1, math.MinInt, math.MaxInt} {
		for _, steps := range [][]api.Step{nil, {}, {{Slot: 0, N: 9}}} {
			if e := a.Spread(steps, workers); e != api.ErrArg {
				t.Errorf("P1.2: %d steps by %d workers: %d", len(steps), workers, e)
			}
			wantState(t, "P1.2", a, before)
		}
	}
}

func TestSpreadRefusesSteps(t *testing.T) {
	a := tally.New()
	a.Add(0, 5)
	before := look(a)
	for _, wrong := range wrongSteps() {
		for place := range 3 {
			steps := slices.Insert([]api.Step{{Slot: 1, N: 50}, {Slot: 2, N: 60}}, place, wrong)
			for _, workers := range []int{1, 2, api.MaxWorkers} {
				if e := a.Spread(steps, workers); e != api.ErrArg {
					t.Errorf("P1.2: %v by %d workers: %d", steps, workers, e)
				}
				wantState(t, "P1.2", a, before)
			}
		}
	}
}

func TestSpreadAtOneTime(t *testing.T) {
	const callers, count = 16, 1000
	a := tally.New()
	steps := make([]api.Step, count)
	for i := range steps {
		steps[i] = api.Step{Slot: 5, N: int64(i)}
	}
	atOnce(callers, func(i int) { a.Spread(steps, i+1) })
	wantState(t, "P1.2", a, state{counters: [api.Slots]int64{5: callers * count * (count - 1) / 2}, most: count - 1})
}

func TestFirst(t *testing.T) {
	for _, word := range []int64{7, 0, -1, math.MinInt64, math.MaxInt64} {
		a := tally.New()
		for _, said := range []int64{word, 9, 0, -5, word} {
			if got := a.First(said); got != word {
				t.Errorf("P1.3: First(%d) behind First(%d): %d", said, word, got)
			}
		}
		wantState(t, "P1.3", a, state{})
	}
}

func TestFirstAtOneTime(t *testing.T) {
	const callers = 64
	a := tally.New()
	answers := make([]int64, callers)
	atOnce(callers, func(i int) { answers[i] = a.First(int64(i) + 1) })
	first := a.First(1000)
	if first < 1 || first > callers {
		t.Errorf("P1.3: %d was never said", first)
	}
	for i, got := range answers {
		if got != first {
			t.Errorf("P1.3: caller %d was answered %d, others %d", i, got, first)
		}
	}
}

func TestTicketExample(t *testing.T) {
	a := tally.New()
	if got := a.Ticket(); got != 1 {
		t.Errorf("P1.4: %d", got)
	}
	if got, e := a.Draw(3, 2); e != api.OK || !slices.Equal(got, upTo(1, 6)) {
		t.Errorf("P1.4: %v, %d", got, e)
	}
	if got := a.Ticket(); got != 8 {
		t.Errorf("P1.4: %d", got)
	}
	if got := a.Ticket(); got != 9 {
		t.Errorf("P1.4: %d", got)
	}
	wantState(t, "P1.4", a, state{})
}

func TestDrawEdges(t *testing.T) {
	a := tally.New()
	last := int64(0)
	for _, workers := range []int{1, 2, 7, api.MaxWorkers} {
		for _, each := range []int{0, 1, 3, 999, 1000} {
			got, e := a.Draw(workers, each)
			if e != api.OK || !slices.Equal(got, upTo(last, int64(workers*each))) {
				t.Errorf("P1.4: Draw(%d, %d) behind %d: %d tickets, %d", workers, each, last, len(got), e)
			}
			last += int64(workers * each)
		}
	}
	if got := a.Ticket(); got != last+1 {
		t.Errorf("P1.4: %d behind %d", got, last)
	}
}

func TestDrawRefuses(t *testing.T) {
	a := tally.New()
	a.Draw(1, 3)
	for _, w := range [][2]int{
		{0, 1}, {-1, 1}, {api.MaxWorkers + 1, 1}, {math.MinInt, 1}, {math.MaxInt, 1},
		{1, -1}, {1, 1001}, {api.MaxWorkers, 1001}, {1, math.MinInt}, {1, math.MaxInt},
		{0, 0}, {api.MaxWorkers + 1, 0}, {-1, -1}, {math.MaxInt, math.MaxInt},
	} {
		if got, e := a.Draw(w[0], w[1]); e != api.ErrArg || len(got) != 0 {
			t.Errorf("P1.4: Draw(%d, %d): %d tickets, %d", w[0], w[1], len(got), e)
		}
	}
	if got := a.Ticket(); got != 4 {
		t.Errorf("P1.4: a refused draw took tickets: %d", got)
	}
}

func TestTicketsAtOneTime(t *testing.T) {
	const callers, times = 32, 200
	a := tally.New()
	taken := make([][]int64, callers)
	atOnce(callers, func(i int) {
		for range times {
			drawn, _ := a.Draw(2, 2)
			if !slices.IsSorted(drawn) {
				t.Errorf("P1.4: a draw that doesn't rise: %v", drawn)
			}
			taken[i] = append(append(taken[i], drawn...), a.Ticket())
		}
	})
	all := slices.Concat(taken...)
	slices.Sort(all)
	if !slices.Equal(all, upTo(0, callers*times*5)) {
		t.Errorf("P1.4: %d tickets, some twice or none", len(all))
	}
}

func TestDrawsShareNoMemory(t *testing.T) {
	a := tally.New()
	one, _ := a.Draw(2, 2)
	clear(one[:cap(one)])
	two, _ := a.Draw(2, 2)
	if !slices.Equal(two, upTo(4, 4)) {
		t.Errorf("rule 5: %v", two)
	}
	clear(two[:cap(two)])
	if !slices.Equal(one, make([]int64, 4)) {
		t.Errorf("rule 5: %v", one)
	}
}

func TestTalliesStandAlone(t *testing.T) {
	a, b := tally.New(), tally.New()
	a.Add(2, 5)
	a.Spread([]api.Step{{Slot: 3, N: 8}}, 2)
	a.First(7)
	a.Draw(3, 3)
	wantState(t, "rule 6", b, state{})
	if got := b.First(9); got != 9 {
		t.Errorf("rule 6: First: %d", got)
	}
	if got := b.Ticket(); got != 1 {
		t.Errorf("rule 6: Ticket: %d", got)
	}
}

func TestNilTally(t *testing.T) {
	var a *tally.Tally
	wantState(t, "rule 1", a, state{})
	if e := a.Add(0, 1); e != api.ErrArg {
		t.Errorf("rule 1: Add: %d", e)
	}
	if e := a.Spread([]api.Step{{Slot: 0, N: 1}}, 1); e != api.ErrArg {
		t.Errorf("rule 1: Spread: %d", e)
	}
	if got, e := a.Draw(1, 1); e != api.ErrArg || len(got) != 0 {
		t.Errorf("rule 1: Draw: %v, %d", got, e)
	}
	if got := a.First(7); got != 0 {
		t.Errorf("rule 1: First: %d", got)
	}
	if got := a.Ticket(); got != 0 {
		t.Errorf("rule 1: Ticket: %d", got)
	}
}
