package wheel_test

import (
	"cmp"
	"math"
	"math/rand"
	"slices"
	"testing"

	"matins/api"
	"matins/wheel"
)

// noInstants are numbers at which no wheel stands and no item waits.
var noInstants = []int64{-1, -2, api.MaxTime + 1, api.MaxTime + 2, math.MinInt64, math.MinInt64 + 1, math.MaxInt64, math.MaxInt64 - 1, math.MinInt32, 1 << 32, -1 << 32}

// nows are instants on either side of those at which many digits change at once, and the ends.
var nows = []int64{
	0, 1, 31, 62, 63, 64, 65, 1000, 4095, 4096, 4097, 1<<18 - 4097, 1<<18 - 65, 1<<18 - 2, 1<<18 - 1, 1 << 18, 1<<18 + 1,
	1<<18 + 4095, 1<<24 - 1<<18 - 1, 1<<24 - 1, 1 << 24, 1<<27 - 1, 1 << 27, 123456789,
	api.MaxTime - api.MaxWheel - 1, api.MaxTime - api.MaxWheel, api.MaxTime - api.MaxWheel + 1, api.MaxTime - 4096, api.MaxTime - 1, api.MaxTime,
}

// ids are those that a wrong order or a wrong reading of numbers would mix up.
var ids = []int{math.MinInt, math.MinInt + 1, math.MinInt32, -4096, -2, -1, 0, 1, 2, 63, 64, 4096, math.MaxInt32, 1 << 32, math.MaxInt - 1, math.MaxInt}

// table reads the chapter plainly: a now, and a list of items.
type table struct {
	now   int64
	items []api.Item
}

func (p *table) insert(i api.Item) api.Errno {
	if i.At <= p.now || i.At > api.MaxTime || i.At > p.now+api.MaxWheel {
		return api.ErrTime
	}
	for _, other := range p.items {
		if other.Id == i.Id {
			return api.ErrExists
		}
	}
	if len(p.items) >= api.MaxItems {
		return api.ErrFull
	}
	p.items = append(p.items, i)
	return api.OK
}

func (p *table) cancel(id int) bool {
	before := len(p.items)
	p.items = slices.DeleteFunc(p.items, func(i api.Item) bool { return i.Id == id })
	return len(p.items) < before
}

func (p *table) advance(to int64) ([]api.Item, api.Errno) {
	if to < p.now || to > api.MaxTime {
		return nil, api.ErrTime
	}
	p.now = to
	var due, rest []api.Item
	for _, i := range p.items {
		if i.At <= to {
			due = append(due, i)
		} else {
			rest = append(rest, i)
		}
	}
	p.items = rest
	return inOrder(due), api.OK
}

// inOrder is a copy of items, by At, of one At by Id.
func inOrder(items []api.Item) []api.Item {
	l := slices.Clone(items)
	slices.SortFunc(l, func(a, b api.Item) int {
		if a.At != b.At {
			return cmp.Compare(a.At, b.At)
		}
		return cmp.Compare(a.Id, b.Id)
	})
	return l
}

func made(t testing.TB, now int64) *wheel.Wheel {
	t.Helper()
	w, e := wheel.New(now)
	if w == nil || e != api.OK {
		t.Fatalf("New(%d): %v, %d", now, w, e)
	}
	return w
}

func insert(t testing.TB, w *wheel.Wheel, items ...api.Item) {
	t.Helper()
	for _, i := range items {
		if e := w.Insert(i); e != api.OK {
			t.Fatalf("P8.1: at %d: Insert(%v): %d", w.Now(), i, e)
		}
	}
}

func wantInsert(t testing.TB, w *wheel.Wheel, i api.Item, want api.Errno) {
	t.Helper()
	if e := w.Insert(i); e != want {
		t.Errorf("P8.1: at %d: Insert(%v): %d, want %d", w.Now(), i, e, want)
	}
}

func wantAdvance(t testing.TB, w *wheel.Wheel, to int64, want ...api.Item) {
	t.Helper()
	from := w.Now()
	l, e := w.Advance(to)
	if e != api.OK || !slices.Equal(l, want) {
		t.Errorf("P8.2: from %d: Advance(%d): %v, %d, want %v", from, to, l, e, want)
	}
	if w.Now() != to {
		t.Errorf("P8.2: from %d: behind Advance(%d) now is %d", from, to, w.Now())
	}
}

func wantNoAdvance(t testing.TB, w *wheel.Wheel, to int64) {
	t.Helper()
	if l, e := w.Advance(to); len(l) != 0 || e != api.ErrTime {
		t.Errorf("P8.2: at %d: Advance(%d): %v, %d, want ErrTime", w.Now(), to, l, e)
	}
}

// wantState holds what can be seen of a wheel against a now and items in any order.
func wantState(t testing.TB, w *wheel.Wheel, now int64, items ...api.Item) {
	t.Helper()
	if got := w.Now(); got != now {
		t.Errorf("P8.3: now is %d, want %d", got, now)
	}
	if got := w.Waiting(); !slices.Equal(got, inOrder(items)) {
		t.Errorf("P8.3: at %d wait %v, want %v", now, got, inOrder(items))
	}
}

func item(id int, at int64) api.Item { return api.Item{Id: id, At: at} }

// spread are items at the first and the last minute of each place that a wheel may have, seen from now, beside those next to them; as many as may wait.
func spread(now int64) []api.Item {
	var ats []int64
	for ring := int64(1); ring <= api.MaxWheel; ring *= 64 {
		for n := range int64(66) {
			for near := int64(-1); near <= 1; near++ {
				ats = append(ats, now+n*ring+near, (now/ring+n)*ring+near)
			}
		}
	}
	slices.Sort(ats)
	ats = slices.Compact(ats)
	var items []api.Item
	for _, at := range ats {
		if at > now && at <= min(now+api.MaxWheel, api.MaxTime) {
			items = append(items, item(len(items), at))
		}
	}
	return items
}

// mixed is a copy of items in another order, with other Ids, so that neither goes with the times.
func mixed(items []api.Item, seed int64) []api.Item {
	r := rand.New(rand.NewSource(seed))
	l := slices.Clone(items)
	for i, id := range r.Perm(len(l)) {
		l[i].Id = id
	}
	r.Shuffle(len(l), func(a, b int) { l[a], l[b] = l[b], l[a] })
	return l
}

func TestExamples(t *testing.T) {
	w := made(t, 10)
	insert(t, w, item(1, 12), item(2, 11), item(3, 12))
	wantInsert(t, w, item(1, 50), api.ErrExists)
	wantInsert(t, w, item(4, 10), api.ErrTime)
	wantAdvance(t, w, 11, item(2, 11))
	if !w.Cancel(1) {
		t.Error("P8.1: Cancel(1): false")
	}
	if w.Cancel(1) {
		t.Error("P8.1: Cancel(1) once more: true")
	}
	wantAdvance(t, w, 5000, item(3, 12))
	wantNoAdvance(t, w, 4999)
	wantInsert(t, w, item(9, 5000+262144), api.OK)
	wantInsert(t, w, item(10, 5000+262144+1), api.ErrTime)
	wantInsert(t, w, item(9, 5000+262144+1), api.ErrTime)
	wantState(t, w, 5000, item(9, 267144))
}

// The third of the document's ten examples.
func TestExampleOfTheWhole(t *testing.T) {
	w := made(t, 10)
	insert(t, w, item(1, 11), item(2, 12), item(3, 12))
	wantAdvance(t, w, 11, item(1, 11))
	wantAdvance(t, w, 5000, item(2, 12), item(3, 12))
}

func TestNew(t *testing.T) {
	for _, now := range nows {
		wantState(t, made(t, now), now)
	}
	for _, now := range noInstants {
		if w, e := wheel.New(now); w != nil || e != api.ErrTime {
			t.Errorf("New(%d): %v, %d, want nil, ErrTime", now, w, e)
		}
	}
}

func TestInsertTimes(t *testing.T) {
	for _, now := range nows {
		w := made(t, now)
		last := min(now+api.MaxWheel, api.MaxTime)
		var wait []api.Item
		for _, at := range []int64{now + 1, now + 2, last - 1, last} {
			if at <= now || at > last || slices.ContainsFunc(wait, func(i api.Item) bool { return i.At == at }) {
				continue
			}
			wait = append(wait, item(len(wait), at))
			wantInsert(t, w, wait[len(wait)-1], api.OK)
		}
		wrong := append([]int64{now, now - 1, now - 64, now - api.MaxWheel, 0, last + 1, last + 2, now + 2*api.MaxWheel, now + 1<<24, now + 1<<32}, noInstants...)
		for _, at := range wrong {
			wantInsert(t, w, item(77, at), api.ErrTime)
		}
		wantState(t, w, now, wait...)
		wantAdvance(t, w, last, wait...)
		wantState(t, w, last)
	}
}

// What may wait hangs on where the wheel stands now, not on where it began.
func TestInsertTimesBehindAdvance(t *testing.T) {
	for _, now := range nows {
		for _, step := range []int64{1, 63, 64, 4096, api.MaxWheel - 1, api.MaxWheel, api.MaxWheel + 1, 10 * api.MaxWheel} {
			to := now + step
			if to+api.MaxWheel > api.MaxTime {
				continue
			}
			w := made(t, now)
			wantAdvance(t, w, to)
			wantInsert(t, w, item(1, to), api.ErrTime)
			wantInsert(t, w, item(1, to-1), api.ErrTime)
			wantInsert(t, w, item(1, to+api.MaxWheel+1), api.ErrTime)
			wantInsert(t, w, item(1, to+api.MaxWheel), api.OK)
			wantInsert(t, w, item(2, to+1), api.OK)
			wantState(t, w, to, item(1, to+api.MaxWheel), item(2, to+1))
		}
	}
}

func TestAtTheEndOfTime(t *testing.T) {
	w := made(t, api.MaxTime-1)
	wantInsert(t, w, item(1, api.MaxTime+1), api.ErrTime)
	wantInsert(t, w, item(1, api.MaxTime), api.OK)
	wantAdvance(t, w, api.MaxTime-1)
	wantNoAdvance(t, w, api.MaxTime+1)
	wantState(t, w, api.MaxTime-1, item(1, api.MaxTime))
	wantAdvance(t, w, api.MaxTime, item(1, api.MaxTime))
	wantAdvance(t, w, api.MaxTime)
	for _, at := range []int64{api.MaxTime - 1, api.MaxTime, api.MaxTime + 1} {
		wantInsert(t, w, item(1, at), api.ErrTime)
	}
	wantNoAdvance(t, w, api.MaxTime-1)
	wantState(t, w, api.MaxTime)
}

// full is a wheel that has MaxItems items, and these.
func full(t *testing.T, now int64) (*wheel.Wheel, []api.Item) {
	t.Helper()
	w := made(t, now)
	var items []api.Item
	for i := range api.MaxItems {
		items = append(items, item(i, now+1+int64(i*i*61%api.MaxWheel)))
	}
	insert(t, w, items...)
	return w, items
}

func TestInsertFull(t *testing.T) {
	w, items := full(t, 1000)
	for range 2 {
		wantInsert(t, w, item(-1, 1500), api.ErrFull)
		wantInsert(t, w, item(api.MaxItems, 1001), api.ErrFull)
	}
	wantState(t, w, 1000, items...)
	if !w.Cancel(17) {
		t.Error("P8.1: Cancel(17): false")
	}
	items[17] = item(-1, 1500)
	wantInsert(t, w, items[17], api.OK)
	wantInsert(t, w, item(17, 1500), api.ErrFull)
	wantState(t, w, 1000, items...)
}

func TestInsertFullBehindAdvance(t *testing.T) {
	w, items := full(t, 0)
	items = inOrder(items)
	first := items[0].At
	n := 1
	for items[n].At == first {
		n++
	}
	wantAdvance(t, w, first, items[:n]...)
	for i := range n {
		items[i] = item(-1-i, first+api.MaxWheel)
		wantInsert(t, w, items[i], api.OK)
	}
	wantInsert(t, w, item(-1-n, first+api.MaxWheel), api.ErrFull)
	wantState(t, w, first, items...)
	wantAdvance(t, w, first+api.MaxWheel, inOrder(items)...)
	wantState(t, w, first+api.MaxWheel)
	for i := range items {
		items[i] = item(items[i].Id, w.Now()+1)
	}
	insert(t, w, items...)
	wantInsert(t, w, item(1<<20, w.Now()+1), api.ErrFull)
	wantAdvance(t, w, w.Now()+1, inOrder(items)...)
}

// Of several errors the first one is told: ErrTime, ErrExists, ErrFull.
func TestInsertErrorsInOrder(t *testing.T) {
	w, items := full(t, 1000)
	for _, at := range append([]int64{0, 999, 1000, 1000 + api.MaxWheel + 1}, noInstants...) {
		wantInsert(t, w, item(5, at), api.ErrTime)
		wantInsert(t, w, item(-1, at), api.ErrTime)
	}
	for _, at := range []int64{1001, items[5].At, 1000 + api.MaxWheel} {
		wantInsert(t, w, item(5, at), api.ErrExists)
		wantInsert(t, w, item(-1, at), api.ErrFull)
	}
	wantState(t, w, 1000, items...)
	few := made(t, 1000)
	insert(t, few, item(5, 1001))
	wantInsert(t, few, item(5, 1000), api.ErrTime)
	wantInsert(t, few, item(5, 1000+api.MaxWheel+1), api.ErrTime)
	wantInsert(t, few, item(5, 1001), api.ErrExists)
	wantState(t, few, 1000, item(5, 1001))
}

func TestCancel(t *testing.T) {
	w := made(t, 100)
	var items []api.Item
	for i, id := range ids {
		items = append(items, item(id, 101+int64(i/4)*4000))
	}
	insert(t, w, items...)
	for _, id := range []int{3, -3, 65, math.MinInt + 2, math.MaxInt - 2, 101} {
		if w.Cancel(id) {
			t.Errorf("P8.1: Cancel(%d): true, though it doesn't wait", id)
		}
	}
	wantState(t, w, 100, items...)
	for len(items) > 0 {
		n := len(items) * 3 / 5
		id := items[n].Id
		items = slices.Delete(items, n, n+1)
		if !w.Cancel(id) {
			t.Errorf("P8.1: Cancel(%d): false", id)
		}
		if w.Cancel(id) {
			t.Errorf("P8.1: Cancel(%d) once more: true", id)
		}
		wantState(t, w, 100, items...)
	}
	wantAdvance(t, w, 100+api.MaxWheel)
}

// What was canceled isn't answered, from whichever place it was taken out, and what waits beside it is.
func TestCancelAtEachPlace(t *testing.T) {
	for _, now := range nows {
		items := spread(now)
		for _, step := range []int64{0, 1, 64, 100, 4096, 200000} {
			to := min(now+step, api.MaxTime)
			w := made(t, now)
			insert(t, w, mixed(items, step)...)
			w.Advance(to)
			var kept []api.Item
			for n, i := range w.Waiting() {
				if n%3 == 1 {
					kept = append(kept, i)
				} else if !w.Cancel(i.Id) {
					t.Fatalf("P8.1: at %d: Cancel of %v: false", to, i)
				}
			}
			wantState(t, w, to, kept...)
			wantAdvance(t, w, min(to+api.MaxWheel, api.MaxTime), kept...)
			wantState(t, w, min(to+api.MaxWheel, api.MaxTime))
		}
	}
}

func TestIdAgainBehindCancel(t *testing.T) {
	for _, at := range []int64{501, 502, 564, 9000, 500 + api.MaxWheel} {
		for _, again := range []int64{501, 502, 564, 9000, 500 + api.MaxWheel} {
			w := made(t, 500)
			insert(t, w, item(7, at), item(8, at))
			if !w.Cancel(7) {
				t.Error("P8.1: Cancel(7): false")
			}
			insert(t, w, item(7, again))
			wantInsert(t, w, item(7, at), api.ErrExists)
			wait := inOrder([]api.Item{item(7, again), item(8, at)})
			wantState(t, w, 500, wait...)
			wantAdvance(t, w, 500+api.MaxWheel, wait...)
			wantState(t, w, 500+api.MaxWheel)
		}
	}
}

func TestIdAgainBehindAdvance(t *testing.T) {
	w := made(t, 0)
	for n := range int64(300) {
		at := w.Now() + 1 + n*n%4500
		insert(t, w, item(7, at))
		wantInsert(t, w, item(7, at+1), api.ErrExists)
		wantAdvance(t, w, at-1)
		wantInsert(t, w, item(7, at+1), api.ErrExists)
		wantAdvance(t, w, at, item(7, at))
		if w.Cancel(7) {
			t.Fatalf("P8.2: at %d: an item that was answered waits", at)
		}
		wantState(t, w, at)
	}
}

// Items of one At come by their Ids, in whichever order they were inserted.
func TestOneAtByIds(t *testing.T) {
	for _, now := range nows {
		for _, ahead := range []int64{1, 64, 5000, api.MaxWheel} {
			at := now + ahead
			if at > api.MaxTime {
				continue
			}
			for seed := range int64(4) {
				w := made(t, now)
				for _, n := range rand.New(rand.NewSource(seed)).Perm(len(ids)) {
					insert(t, w, item(ids[n], at))
				}
				var want []api.Item
				for _, id := range ids {
					want = append(want, item(id, at))
				}
				if got := w.Waiting(); !slices.Equal(got, want) {
					t.Errorf("P8.3: at %d wait %v, want %v", now, got, want)
				}
				wantAdvance(t, w, at-1)
				if got := w.Waiting(); !slices.Equal(got, want) {
					t.Errorf("P8.3: at %d wait %v, want %v", at-1, got, want)
				}
				wantAdvance(t, w, at, want...)
			}
		}
	}
}

// A lesser At comes first, whatever the Ids are.
func TestAtAheadOfId(t *testing.T) {
	for _, apart := range []int64{1, 63, 64, 4096, api.MaxWheel - 1} {
		w := made(t, 70)
		want := []api.Item{item(math.MaxInt, 71), item(math.MinInt, 71+apart)}
		insert(t, w, want[1], want[0])
		if got := w.Waiting(); !slices.Equal(got, want) {
			t.Errorf("P8.3: wait %v, want %v", got, want)
		}
		wantAdvance(t, w, 71+apart, want...)
	}
}

func TestAdvanceRefuses(t *testing.T) {
	for _, now := range nows {
		w := made(t, now)
		var items []api.Item
		if now < api.MaxTime {
			items = append(items, item(3, now+1))
		}
		insert(t, w, items...)
		for _, to := range append([]int64{now - 1, now - 64, now - api.MaxWheel}, noInstants...) {
			wantNoAdvance(t, w, to)
			wantState(t, w, now, items...)
		}
		if now > 0 {
			wantNoAdvance(t, w, 0)
		}
		wantAdvance(t, w, now)
		wantState(t, w, now, items...)
	}
}

// One item alone: it isn't answered a minute early, it is at its minute, and not again; by one long advance, and by short ones that end near it.
func TestOneItemAtEachPlace(t *testing.T) {
	for _, now := range nows {
		for _, i := range spread(now) {
			for _, early := range []int64{1, 2, 63, 64, 65, 4096, 4097} {
				w := made(t, now)
				insert(t, w, i)
				wantAdvance(t, w, max(i.At-early, now))
				wantState(t, w, max(i.At-early, now), i)
				wantAdvance(t, w, i.At-1)
				wantAdvance(t, w, i.At, i)
				wantAdvance(t, w, min(i.At+api.MaxWheel, api.MaxTime))
			}
			w := made(t, now)
			insert(t, w, i)
			wantAdvance(t, w, api.MaxTime, i)
		}
	}
}

// All at once: advances up to each place where an item waits, and up to the minute ahead of it.
func TestAdvanceToEachItem(t *testing.T) {
	for _, now := range nows {
		items := spread(now)
		w := made(t, now)
		insert(t, w, mixed(items, now)...)
		left := w.Waiting()
		for len(left) > 0 {
			to := left[0].At
			wantAdvance(t, w, to-1)
			n := 1
			for n < len(left) && left[n].At == to {
				n++
			}
			wantAdvance(t, w, to, left[:n]...)
			left = left[n:]
			if got := w.Waiting(); !slices.Equal(got, left) {
				t.Fatalf("P8.3: at %d wait %d items, want %d", to, len(got), len(left))
			}
		}
	}
}

// From each start, one advance to each item's minute and to the one ahead of it.
func TestOneAdvance(t *testing.T) {
	for _, now := range nows {
		items := spread(now)
		for n := 0; n < len(items); n += 7 {
			for _, to := range []int64{items[n].At - 1, items[n].At} {
				w := made(t, now)
				insert(t, w, items...)
				k := n
				if to == items[n].At {
					k++
				}
				wantAdvance(t, w, to, items[:k]...)
				wantState(t, w, to, items[k:]...)
			}
		}
	}
}

// Several steps answer, one behind the other, what one step answers; in between, what was answered waits no more and the rest does.
func TestSteps(t *testing.T) {
	for _, now := range nows {
		items := mixed(spread(now), now+1)
		end := min(now+api.MaxWheel+100, api.MaxTime)
		once := made(t, now)
		insert(t, once, items...)
		want, e := once.Advance(end)
		if e != api.OK || !slices.Equal(want, inOrder(items)) {
			t.Fatalf("P8.2: from %d: Advance(%d): %d items, %d", now, end, len(want), e)
		}
		for _, step := range []int64{1, 7, 63, 64, 65, 1000, 4095, 4096, 4097, 100000, 1<<18 - 1, 1 << 18} {
			w := made(t, now)
			insert(t, w, items...)
			var got []api.Item
			for to := now; to < end; {
				to = min(to+step, end)
				l, e := w.Advance(to)
				if e != api.OK {
					t.Fatalf("P8.4: Advance(%d): %d", to, e)
				}
				got = append(got, l...)
			}
			if !slices.Equal(got, want) {
				t.Errorf("P8.4: from %d by steps of %d: %d items, want %d", now, step, len(got), len(want))
			}
			wantState(t, w, end)
		}
	}
}

func TestStepsByChance(t *testing.T) {
	r := rand.New(rand.NewSource(8))
	for range 300 {
		now := r.Int63n(api.MaxTime - api.MaxWheel)
		var items []api.Item
		for id := range 200 {
			items = append(items, item(id, now+1+r.Int63n(1<<(r.Intn(18)+1))))
		}
		w := made(t, now)
		insert(t, w, items...)
		var got []api.Item
		for w.Now() < now+api.MaxWheel {
			l, _ := w.Advance(min(w.Now()+r.Int63n(1<<(r.Intn(18)+1)), now+api.MaxWheel))
			got = append(got, l...)
		}
		if !slices.Equal(got, inOrder(items)) {
			t.Fatalf("P8.4: from %d: %v, want %v", now, got, inOrder(items))
		}
	}
}

// held is a wheel beside a table: each call is made to both.
type held struct {
	t testing.TB
	w *wheel.Wheel
	p *table
}

func (h held) insert(i api.Item) {
	if got, want := h.w.Insert(i), h.p.insert(i); got != want {
		h.t.Fatalf("P8.1: at %d: Insert(%v): %d, want %d", h.p.now, i, got, want)
	}
}

func (h held) cancel(id int) {
	if got, want := h.w.Cancel(id), h.p.cancel(id); got != want {
		h.t.Fatalf("P8.1: at %d: Cancel(%d): %t, want %t", h.p.now, id, got, want)
	}
}

func (h held) advance(to int64) {
	from := h.p.now
	got, e := h.w.Advance(to)
	want, f := h.p.advance(to)
	if e != f || !slices.Equal(got, want) {
		h.t.Fatalf("P8.2: from %d: Advance(%d): %v, %d, want %v, %d", from, to, got, e, want, f)
	}
}

func (h held) look() {
	if got := h.w.Now(); got != h.p.now {
		h.t.Fatalf("P8.3: now is %d, want %d", got, h.p.now)
	}
	if got, want := h.w.Waiting(), inOrder(h.p.items); !slices.Equal(got, want) {
		h.t.Fatalf("P8.3: at %d wait %v, want %v", h.p.now, got, want)
	}
}

// Scripts of all calls by chance, right and wrong ones, held against the plain table.
func TestScripts(t *testing.T) {
	for seed := range int64(200) {
		r := rand.New(rand.NewSource(seed))
		now := nows[r.Intn(len(nows))]
		h := held{t, made(t, now), &table{now: now}}
		far := func(most int) int64 { return r.Int63n(1 << (r.Intn(most) + 1)) }
		few := 1 << (1 + r.Intn(8))
		for range 400 {
			switch r.Intn(10) {
			case 0, 1, 2, 3, 4:
				h.insert(item(r.Intn(few)-few/2, h.p.now+far(19)-2))
			case 5, 6:
				h.cancel(r.Intn(few) - few/2)
			case 7:
				h.advance(h.p.now + far(13) - 2)
			case 8:
				h.advance(h.p.now + far(19))
			case 9:
				h.advance(noInstants[r.Intn(len(noInstants))])
			}
			h.look()
		}
	}
}

// As TestScripts, around the limit of items.
func TestScriptsWithManyItems(t *testing.T) {
	for seed := range int64(3) {
		r := rand.New(rand.NewSource(seed))
		w, items := full(t, 5000)
		h := held{t, w, &table{now: 5000, items: items}}
		for range 1000 {
			switch r.Intn(8) {
			case 0:
				h.cancel(r.Intn(2 * api.MaxItems))
			case 1:
				h.advance(h.p.now + r.Int63n(50))
			default:
				h.insert(item(r.Intn(2*api.MaxItems), h.p.now+1+r.Int63n(api.MaxWheel)))
			}
		}
		h.look()
	}
}

// An answer is new memory: whoever writes into it changes no wheel and no other answer.
func TestAnswersAreNew(t *testing.T) {
	w := made(t, 0)
	items := []api.Item{item(1, 5), item(2, 6), item(3, 70), item(4, 71)}
	insert(t, w, items...)
	spoil := func(l []api.Item) {
		l = l[:cap(l)]
		for i := range l {
			l[i] = item(99, 99)
		}
	}
	first, second := w.Waiting(), w.Waiting()
	spoil(first)
	if !slices.Equal(second, items) {
		t.Errorf("rule 5: a list was changed by way of another one: %v", second)
	}
	wantState(t, w, 0, items...)
	due, _ := w.Advance(6)
	spoil(second)
	if !slices.Equal(due, items[:2]) {
		t.Errorf("rule 5: an answer was changed by way of a list: %v", due)
	}
	later, _ := w.Advance(70)
	spoil(due)
	if !slices.Equal(later, items[2:3]) {
		t.Errorf("rule 5: an answer was changed by way of another one: %v", later)
	}
	wantState(t, w, 70, items[3])
	wantAdvance(t, w, 71, items[3])
}

func TestWheelsAreApart(t *testing.T) {
	a, b := made(t, 10), made(t, 10)
	insert(t, a, item(1, 11))
	wantState(t, b, 10)
	insert(t, b, item(1, 12))
	wantAdvance(t, a, 500, item(1, 11))
	wantState(t, b, 10, item(1, 12))
	if a.Cancel(1) {
		t.Error("P8.1: Cancel of another wheel's item: true")
	}
	wantAdvance(t, b, 12, item(1, 12))
}

// Calls that only look change nothing.
func TestLookingChangesNothing(t *testing.T) {
	w := made(t, 63)
	items := []api.Item{item(2, 64), item(1, 64), item(5, 5000)}
	insert(t, w, items...)
	for range 3 {
		wantState(t, w, 63, items...)
	}
	wantAdvance(t, w, 5000, inOrder(items)...)
}

func TestNil(t *testing.T) {
	var w *wheel.Wheel
	for _, at := range []int64{-1, 0, 1, 5, api.MaxTime, api.MaxTime + 1} {
		if e := w.Insert(item(1, at)); e != api.ErrArg {
			t.Errorf("Insert at %d into nil: %d, want ErrArg", at, e)
		}
		if l, e := w.Advance(at); len(l) != 0 || e != api.ErrArg {
			t.Errorf("Advance(%d) of nil: %v, %d, want ErrArg", at, l, e)
		}
	}
	if w.Cancel(1) || w.Now() != 0 || len(w.Waiting()) != 0 {
		t.Error("a nil wheel has something")
	}
}

// A long advance of an empty wheel, and many of them, end soon: none goes minute by minute.
func TestLongAdvances(t *testing.T) {
	for range 20000 {
		w := made(t, 0)
		insert(t, w, item(1, api.MaxWheel))
		if l, e := w.Advance(api.MaxTime); len(l) != 1 || e != api.OK {
			t.Fatalf("P8.2: Advance(MaxTime): %v, %d", l, e)
		}
	}
}
