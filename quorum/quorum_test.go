package quorum_test

import (
	"math"
	"math/bits"
	"math/rand"
	"slices"
	"testing"

	"matins/api"
	"matins/quorum"
)

// nodes are numbers of nodes, rising, that a reading by fewer bits would mix up.
var nodes = []int{1, 2, 3, 257, 65537, math.MaxInt32, 1<<32 + 1, 1<<32 + 2, math.MaxInt - 1, math.MaxInt}

// noNodes are numbers that no node has.
var noNodes = []int{math.MinInt, math.MinInt + 1, math.MinInt32 - 1, math.MinInt32, -1<<32 + 1, -257, -3, -2, -1, 0}

// ends are numbers that a node may have reached, at both ends of their range and around what fewer bits would mix up.
var ends = []int64{math.MinInt64, math.MinInt64 + 1, math.MinInt32 - 1, -1 << 32, -2, -1, 0, 1, 2, math.MaxInt32, 1 << 32, 1<<32 + 1, math.MaxInt64 - 1, math.MaxInt64}

// confs are configurations: of each length, of nodes side by side and far from each other.
var confs = [][]int{
	{1}, {2}, {7}, {math.MaxInt}, {1 << 32}, {1, 2}, {1, math.MaxInt}, {math.MaxInt - 1, math.MaxInt}, {1, 2, 3}, {2, 5, 9}, {1, 257, 1<<32 + 1},
	{1, 2, 3, 4}, {3, 4, 5, math.MaxInt}, {1, 2, 3, 4, 5}, {1, 10, 100, 1000, 10000}, {1, 2, 3, 4, 5, 6}, {2, 4, 6, 8, 10, 12},
	{1, 2, 3, 4, 5, 6, 7}, {5, 6, 7, 8, 9, 10, 11}, nodes[:7], nodes[3:],
}

// noConfs are lists that are no configurations.
var noConfs = [][]int{
	nil, {}, {0}, {-1}, {math.MinInt}, {math.MinInt32}, {-1 << 32}, {0, 0}, {0, 1}, {-1, 1}, {-1, 0, 1}, {-3, -2, -1}, {math.MinInt, math.MaxInt},
	{1, 0}, {1, -1}, {1, 2, 0}, {1, 2, -3}, {1, 1}, {1, 1, 2}, {1, 2, 2}, {1, 2, 2, 3}, {1, 2, 1}, {5, 5, 5}, {math.MaxInt, math.MaxInt},
	{2, 1}, {3, 2, 1}, {1, 3, 2}, {2, 1, 3}, {1, 2, 4, 3}, {math.MaxInt, 1}, {math.MaxInt, math.MinInt}, {1<<32 + 1, 2}, {1, 2, 3, 4, 5, 7, 6}, {1, 2, 3, 4, 5, 6, 6},
	{0, 1, 2, 3, 4, 5, 6}, {1, 2, 3, 4, 5, 6, 7, 8}, {0, 1, 2, 3, 4, 5, 6, 7}, {1, 1, 2, 3, 4, 5, 6, 7}, {1, 2, 3, 4, 5, 6, 7, 7}, nodes, nodes[:8],
}

// The paper calls read the chapter plainly.

func paperCheck(conf []int) bool {
	for i := range conf {
		if conf[i] < 1 || i > 0 && conf[i-1] >= conf[i] {
			return false
		}
	}
	return len(conf) >= 1 && len(conf) <= 7
}

func paperWins(conf, set []int) bool {
	in := map[int]int{}
	for _, n := range set {
		if slices.Contains(conf, n) {
			in[n] = 1
		}
	}
	return paperCheck(conf) && len(in) > len(conf)-len(in)
}

// paperReached asks of each number that a node has reached whether those that have reached it win: between two of these the set stays.
func paperReached(conf []int, match []api.Item) int64 {
	if !paperCheck(conf) {
		return 0
	}
	reached := map[int]int64{}
	for _, m := range match {
		reached[m.Id] = m.At
	}
	var found []int64
	for _, c := range conf {
		var there []int
		for _, d := range conf {
			if reached[d] >= reached[c] {
				there = append(there, d)
			}
		}
		if paperWins(conf, there) {
			found = append(found, reached[c])
		}
	}
	return slices.Max(found)
}

func paperNext(conf []int, add, remove int) ([]int, api.Errno) {
	if !paperCheck(conf) || add < 0 || slices.Contains(conf, add) || remove < 0 || remove > 0 && !slices.Contains(conf, remove) {
		return nil, api.ErrArg
	}
	l := slices.DeleteFunc(slices.Clone(conf), func(n int) bool { return n == remove })
	if add > 0 {
		place := 0
		for place < len(l) && l[place] < add {
			place++
		}
		l = slices.Insert(l, place, add)
	}
	if !paperCheck(l) {
		return nil, api.ErrArg
	}
	return l, api.OK
}

func wantCheck(t testing.TB, conf []int, want bool) {
	t.Helper()
	if got := quorum.Check(conf); got != want {
		t.Errorf("P12.1: Check(%v): %t", conf, got)
	}
}

func wantWins(t testing.TB, conf, set []int, want bool) {
	t.Helper()
	if got := quorum.Wins(conf, set); got != want {
		t.Errorf("P12.1: Wins(%v, %v): %t", conf, set, got)
	}
}

func wantBoth(t testing.TB, old, new, set []int, want bool) {
	t.Helper()
	if got := quorum.Both(old, new, set); got != want {
		t.Errorf("P12.1: Both(%v, %v, %v): %t", old, new, set, got)
	}
}

func wantReached(t testing.TB, conf []int, match []api.Item, want int64) {
	t.Helper()
	if got := quorum.Reached(conf, match); got != want {
		t.Errorf("P12.2: Reached(%v, %v): %d, want %d", conf, match, got, want)
	}
}

func wantNext(t testing.TB, conf []int, add, remove int, want ...int) {
	t.Helper()
	if got, e := quorum.Next(conf, add, remove); !slices.Equal(got, want) || e != api.OK {
		t.Errorf("P12.3: Next(%v, %d, %d): %v, %d, want %v", conf, add, remove, got, e, want)
	}
}

func wantNoNext(t testing.TB, conf []int, add, remove int) {
	t.Helper()
	if got, e := quorum.Next(conf, add, remove); len(got) != 0 || e != api.ErrArg {
		t.Errorf("P12.3: Next(%v, %d, %d): %v, %d, want ErrArg", conf, add, remove, got, e)
	}
}

// ats is what the nodes of a configuration have reached, in their order.
func ats(conf []int, at ...int64) []api.Item {
	var l []api.Item
	for i, n := range at {
		l = append(l, api.Item{Id: conf[i], At: n})
	}
	return l
}

// masked is those of a list whose bits are set.
func masked(all []int, mask int) []int {
	var l []int
	for i, n := range all {
		if mask>>i&1 == 1 {
			l = append(l, n)
		}
	}
	return l
}

func TestExamples(t *testing.T) {
	three, four := []int{1, 2, 3}, []int{1, 2, 3, 4}
	wantWins(t, three, []int{2, 3}, true)
	wantWins(t, three, []int{2, 2}, false)
	wantWins(t, four, []int{1, 2}, false)
	wantBoth(t, three, []int{3, 4, 5}, []int{2, 3, 4}, true)
	wantReached(t, three, []api.Item{{Id: 1, At: 9}, {Id: 2, At: 4}, {Id: 3, At: 7}}, 7)
	wantReached(t, four, []api.Item{{Id: 1, At: 9}, {Id: 2, At: 9}}, 0)
	wantNext(t, three, 4, 0, 1, 2, 3, 4)
	wantNext(t, three, 4, 2, 1, 3, 4)
	wantNoNext(t, []int{1}, 0, 1)
}

func TestCheck(t *testing.T) {
	for _, c := range confs {
		wantCheck(t, c, true)
	}
	for _, c := range noConfs {
		wantCheck(t, c, false)
	}
}

// Each number alone, each two numbers: 1 or above, and rising.
func TestCheckOfOneAndTwo(t *testing.T) {
	all := append(slices.Clone(noNodes), nodes...)
	for i, a := range all {
		wantCheck(t, []int{a}, a >= 1)
		for j, b := range all {
			wantCheck(t, []int{a, b}, i >= len(noNodes) && i < j)
		}
	}
}

// Lists of each length, one to MaxNodes being right ones; of these with one wrong number, whichever, none is.
func TestCheckOfEachLength(t *testing.T) {
	for length := range 20 {
		var l []int
		for n := range length {
			l = append(l, 10*n+10)
		}
		wantCheck(t, l, length >= 1 && length <= api.MaxNodes)
		for place := range l {
			for _, wrong := range []int{math.MinInt, -10, -1, 0} {
				m := slices.Clone(l)
				m[place] = wrong
				wantCheck(t, m, false)
			}
			if place > 0 {
				m := slices.Clone(l)
				m[place] = l[place-1]
				wantCheck(t, m, false)
				m[place], m[place-1] = l[place-1], l[place]
				wantCheck(t, m, false)
			}
		}
	}
	long := make([]int, 100000)
	for i := range long {
		long[i] = i + 1
	}
	wantCheck(t, long, false)
	wantWins(t, long, long, false)
	wantBoth(t, long, []int{1}, long, false)
	wantReached(t, long, ats(long, 5, 5, 5, 5), 0)
	wantNoNext(t, long, 0, 1)
}

// All lists of up to four numbers from -1 to 3.
func TestCheckOfShortLists(t *testing.T) {
	lists := [][]int{nil}
	for from := 0; from < len(lists); from++ {
		wantCheck(t, lists[from], paperCheck(lists[from]))
		for n := -1; n <= 3 && len(lists[from]) < 4; n++ {
			lists = append(lists, append(slices.Clone(lists[from]), n))
		}
	}
	if len(lists) != 1+5+25+125+625 {
		t.Errorf("%d lists were looked at", len(lists))
	}
}

// Half of a configuration doesn't win, one more does, whichever nodes these are.
func TestHalf(t *testing.T) {
	need := map[int]int{1: 1, 2: 2, 3: 2, 4: 3, 5: 3, 6: 4, 7: 4}
	for _, c := range confs {
		for mask := range 1 << len(c) {
			wantWins(t, c, masked(c, mask), bits.OnesCount(uint(mask)) >= need[len(c)])
		}
	}
}

// What is in a set twice counts once, wherever it stands.
func TestSetsWithNumbersTwice(t *testing.T) {
	wantWins(t, []int{1, 2, 3}, []int{2, 2, 2, 2}, false)
	wantWins(t, []int{1, 2, 3}, []int{2, 1, 2}, true)
	wantWins(t, []int{1, 2, 3, 4}, []int{1, 2, 2, 1, 1}, false)
	wantWins(t, []int{1, 2, 3, 4}, []int{1, 2, 2, 1, 4}, true)
	wantWins(t, []int{1, 2, 3, 4, 5}, []int{5, 4, 5, 4}, false)
	wantWins(t, []int{1, 2, 3, 4, 5}, []int{5, 4, 5, 4, 3}, true)
	wantWins(t, []int{4}, []int{4, 4}, true)
	wantWins(t, []int{4, 5}, []int{4, 4}, false)
	wantWins(t, []int{4, 5}, []int{5, 5}, false)
	for _, c := range confs {
		for mask := range 1 << len(c) {
			set := masked(c, mask)
			wantWins(t, c, slices.Concat(set, set, set), paperWins(c, set))
		}
	}
}

// Numbers that are in no configuration count nothing, however many there are.
func TestSetsWithOtherNumbers(t *testing.T) {
	other := []int{math.MinInt, -1 << 32, -3, -2, -1, 0, 8, 9, 258, 1<<32 - 1, 1 << 33, 1<<33 + 1, 1<<33 + 2, math.MaxInt - 2}
	wantWins(t, []int{1, 2, 3}, other, false)
	wantWins(t, []int{1, 2, 3}, append([]int{3}, other...), false)
	wantWins(t, []int{1, 2, 3}, slices.Concat([]int{3}, other, []int{1}), true)
	wantWins(t, []int{1, 2, 3}, []int{1<<32 + 1, 1<<32 + 2, 1<<32 + 3}, false)
	wantWins(t, []int{1<<32 + 1, 1<<32 + 2}, []int{1, 2}, false)
	wantWins(t, []int{5}, []int{9, 5}, true)
	wantWins(t, []int{5}, []int{9, -5}, false)
	for _, c := range confs[:11] {
		strangers := slices.DeleteFunc(slices.Clone(other), func(n int) bool { return slices.Contains(c, n) })
		for mask := range 1 << len(c) {
			set := masked(c, mask)
			wantWins(t, c, slices.Concat(strangers, set, strangers), paperWins(c, set))
		}
	}
}

func TestSetOfNoNumbers(t *testing.T) {
	for _, c := range slices.Concat(confs, noConfs) {
		wantWins(t, c, nil, false)
		wantWins(t, c, []int{}, false)
		wantBoth(t, c, c, nil, false)
		wantBoth(t, c, c, []int{}, false)
	}
}

// The order of a set says nothing.
func TestOrderOfSets(t *testing.T) {
	r := rand.New(rand.NewSource(1))
	for _, c := range confs {
		for mask := range 1 << len(c) {
			set := masked(c, mask)
			want := paperWins(c, set)
			slices.Reverse(set)
			wantWins(t, c, set, want)
			r.Shuffle(len(set), func(i, j int) { set[i], set[j] = set[j], set[i] })
			wantWins(t, c, set, want)
		}
	}
}

func TestLongSets(t *testing.T) {
	c := []int{100001, 100002, 100003}
	var set []int
	for n := range 100000 {
		set = append(set, n, 100001)
	}
	wantWins(t, c, set, false)
	wantWins(t, c, append(set, 100003), true)
	wantBoth(t, c, c, set, false)
	wantBoth(t, c, []int{7, 8, 9}, append(set, 100002), true)
}

// No set wins over what isn't a configuration, not even all numbers.
func TestWinsOverNoConfiguration(t *testing.T) {
	for _, c := range noConfs {
		wantWins(t, c, c, false)
		wantWins(t, c, slices.Concat(noNodes, nodes, []int{4, 5, 6, 7, 8, 9}, c), false)
	}
}

func TestBoth(t *testing.T) {
	old, other := []int{1, 2, 3}, []int{3, 4, 5}
	wantBoth(t, old, other, []int{1, 2, 3}, false)
	wantBoth(t, old, other, []int{3, 4, 5}, false)
	wantBoth(t, old, other, []int{1, 2}, false)
	wantBoth(t, old, other, []int{4, 5}, false)
	wantBoth(t, old, other, []int{3}, false)
	wantBoth(t, old, other, []int{3, 3, 3}, false)
	wantBoth(t, old, other, []int{1, 5}, false)
	wantBoth(t, old, other, []int{1, 3, 5}, true)
	wantBoth(t, old, other, []int{1, 2, 4, 5}, true)
	wantBoth(t, old, []int{9}, []int{1, 2}, false)
	wantBoth(t, old, []int{9}, []int{1, 9}, false)
	wantBoth(t, old, []int{9}, []int{1, 9, 2}, true)
	wantBoth(t, []int{9}, old, []int{1, 9, 2}, true)
	wantBoth(t, []int{1, 2, 3, 4}, old, []int{1, 2}, false)
	wantBoth(t, old, []int{1, 2, 3, 4}, []int{1, 2}, false)
	wantBoth(t, old, []int{1, 2, 3, 4}, []int{1, 2, 4}, true)
	wantBoth(t, old, []int{1, 2, 3, 4}, []int{1, 4}, false)
}

// It is to win over each of the two, not over all their nodes together, nor over one of them.
func TestBothOfEachTwo(t *testing.T) {
	seen := map[[3]bool]int{}
	for _, a := range confs {
		for _, b := range confs {
			all := slices.Concat(a, b)
			slices.Sort(all)
			all = slices.Compact(all)
			for mask := range 1 << min(len(all), 9) {
				set := masked(all, mask)
				first, second := paperWins(a, set), paperWins(b, set)
				wantBoth(t, a, b, set, first && second)
				seen[[3]bool{first, second, first && second}]++
			}
		}
	}
	if len(seen) != 4 {
		t.Errorf("not all cases were looked at: %v", seen)
	}
}

func TestBothOverNoConfiguration(t *testing.T) {
	for _, c := range confs {
		for _, n := range noConfs {
			set := slices.Concat(c, n)
			wantBoth(t, c, c, set, true)
			wantBoth(t, c, n, set, false)
			wantBoth(t, n, c, set, false)
			wantBoth(t, n, n, set, false)
		}
	}
}

func TestReached(t *testing.T) {
	for _, r := range []struct {
		at   []int64
		want int64
	}{
		{[]int64{5}, 5}, {[]int64{5, 8}, 5}, {[]int64{8, 5}, 5}, {[]int64{4, 7, 9}, 7}, {[]int64{9, 7, 4}, 7}, {[]int64{7, 9, 4}, 7},
		{[]int64{1, 2, 3, 4}, 2}, {[]int64{4, 3, 2, 1}, 2}, {[]int64{3, 1, 4, 2}, 2}, {[]int64{1, 2, 3, 4, 5}, 3}, {[]int64{5, 1, 4, 2, 3}, 3},
		{[]int64{1, 2, 3, 4, 5, 6}, 3}, {[]int64{6, 4, 2, 5, 3, 1}, 3}, {[]int64{1, 2, 3, 4, 5, 6, 7}, 4}, {[]int64{7, 1, 6, 2, 5, 3, 4}, 4},
	} {
		for _, c := range confs {
			if len(c) == len(r.at) {
				wantReached(t, c, ats(c, r.at...), r.want)
			}
		}
	}
}

func TestReachedWithTies(t *testing.T) {
	three, four := []int{1, 2, 3}, []int{1, 2, 3, 4}
	wantReached(t, three, ats(three, 6, 6, 6), 6)
	wantReached(t, three, ats(three, 6, 6, 1), 6)
	wantReached(t, three, ats(three, 6, 1, 6), 6)
	wantReached(t, three, ats(three, 1, 6, 1), 1)
	wantReached(t, three, ats(three, 1, 1, 6), 1)
	wantReached(t, four, ats(four, 6, 6, 1, 1), 1)
	wantReached(t, four, ats(four, 6, 1, 6, 6), 6)
	wantReached(t, four, ats(four, 1, 1, 1, 6), 1)
	wantReached(t, four, ats(four, 6, 3, 3, 1), 3)
	wantReached(t, four, ats(four, 6, 6, 3, 1), 3)
	wantReached(t, four, ats(four, 6, 3, 1, 1), 1)
}

// Of a node that has several items the last one tells, whether it is the greatest or not.
func TestReachedWithIdsTwice(t *testing.T) {
	three := []int{1, 2, 3}
	wantReached(t, three, []api.Item{{Id: 1, At: 9}, {Id: 2, At: 4}, {Id: 3, At: 7}, {Id: 2, At: 8}}, 8)
	wantReached(t, three, []api.Item{{Id: 2, At: 8}, {Id: 1, At: 9}, {Id: 2, At: 4}, {Id: 3, At: 7}}, 7)
	wantReached(t, three, []api.Item{{Id: 1, At: 9}, {Id: 3, At: 7}, {Id: 3, At: 9}, {Id: 3, At: 2}}, 2)
	wantReached(t, three, []api.Item{{Id: 1, At: 9}, {Id: 3, At: 7}, {Id: 3, At: 0}}, 0)
	wantReached(t, three, []api.Item{{Id: 1, At: 9}, {Id: 3, At: 7}, {Id: 3, At: -5}}, 0)
	wantReached(t, three, []api.Item{{Id: 1, At: 9}, {Id: 3, At: 7}, {Id: 2, At: -2}, {Id: 3, At: -5}}, -2)
	wantReached(t, three, []api.Item{{Id: 1, At: 9}, {Id: 1, At: 9}, {Id: 1, At: 9}}, 0)
	wantReached(t, []int{4}, []api.Item{{Id: 4, At: 9}, {Id: 4, At: 1}, {Id: 4, At: 3}, {Id: 5, At: 7}}, 3)
}

// A node without an item has reached 0, which is above what others may have reached.
func TestReachedWithIdsMissing(t *testing.T) {
	three, four := []int{1, 2, 3}, []int{1, 2, 3, 4}
	wantReached(t, three, ats(three, 9), 0)
	wantReached(t, three, ats(three, 9, 4), 4)
	wantReached(t, three, ats([]int{3, 1}, 9, 4), 4)
	wantReached(t, three, ats(three, -9), 0)
	wantReached(t, three, ats(three, -9, -4), -4)
	wantReached(t, three, ats(three, -9, 4), 0)
	wantReached(t, four, ats(four, 9, 9), 0)
	wantReached(t, four, ats(four, 9, 9, 8), 8)
	wantReached(t, four, ats(four, -9), 0)
	wantReached(t, four, ats(four, -9, -8), -8)
	wantReached(t, four, ats(four, -9, -8, -7), -8)
	wantReached(t, []int{1}, nil, 0)
	for _, c := range confs {
		wantReached(t, c, nil, 0)
		wantReached(t, c, []api.Item{}, 0)
		wantReached(t, c, ats(noNodes, 9, 9, 9, 9, 9, 9, 9, 9, 9, 9), 0)
		wantReached(t, c, ats(noNodes, -9, -9, -9, -9, -9, -9, -9, -9, -9, -9), 0)
	}
}

// Items of other numbers say nothing, those neither that fewer bits would take for a node's.
func TestReachedWithOtherIds(t *testing.T) {
	three := []int{1, 2, 3}
	wantReached(t, three, []api.Item{{Id: 1, At: 9}, {Id: 4, At: 8}, {Id: 5, At: 8}, {Id: -3, At: 8}, {Id: 0, At: 8}}, 0)
	wantReached(t, three, []api.Item{{Id: 1, At: 9}, {Id: 2, At: 4}, {Id: 1<<32 + 2, At: 8}, {Id: 257, At: 8}, {Id: -2, At: 8}}, 4)
	wantReached(t, three, []api.Item{{Id: math.MaxInt, At: math.MaxInt64}, {Id: math.MinInt, At: math.MinInt64}, {Id: 1, At: 5}, {Id: 3, At: 6}}, 5)
}

func TestReachedAtBothEnds(t *testing.T) {
	const low, high = math.MinInt64, math.MaxInt64
	three, four := []int{1, 2, 3}, []int{1, 2, 3, 4}
	for _, n := range ends {
		wantReached(t, []int{1}, ats([]int{1}, n), n)
		wantReached(t, three, ats(three, n, n, n), n)
		wantReached(t, three, ats(three, low, n, high), n)
		wantReached(t, three, ats(three, high, low, n), n)
		wantReached(t, four, ats(four, high, n, low, high), n)
		wantReached(t, four, ats(four, n, high, n, low), n)
		wantReached(t, four, ats(four, n, low, low, n), low)
		wantReached(t, four, ats(four, n, high, high, high), high)
		wantReached(t, four, ats(four, high, high, n, n), n)
	}
}

// The answer is the greatest one: those that have reached it win, those that have reached one more don't.
func TestReachedIsTheGreatest(t *testing.T) {
	r := rand.New(rand.NewSource(2))
	for range 20000 {
		c := confs[r.Intn(len(confs))]
		match := items(r, c)
		n := quorum.Reached(c, match)
		if !quorum.Wins(c, having(c, match, n)) {
			t.Fatalf("P12.2: Reached(%v, %v): %d, which don't win", c, match, n)
		}
		if n < math.MaxInt64 && quorum.Wins(c, having(c, match, n+1)) {
			t.Fatalf("P12.2: Reached(%v, %v): %d, and one more wins too", c, match, n)
		}
	}
}

// having is the nodes of a configuration that have reached n.
func having(conf []int, match []api.Item, n int64) []int {
	var l []int
	for _, node := range conf {
		at := int64(0)
		for _, m := range match {
			if m.Id == node {
				at = m.At
			}
		}
		if at >= n {
			l = append(l, node)
		}
	}
	return l
}

// All that the nodes of small configurations may have reached, from -2 to 2.
func TestReachedOfSmallNumbers(t *testing.T) {
	for _, c := range confs {
		if len(c) > 5 {
			continue
		}
		count := 1
		for range c {
			count *= 5
		}
		for n := range count {
			var at []int64
			for rest := n; len(at) < len(c); rest /= 5 {
				at = append(at, int64(rest%5-2))
			}
			match := ats(c, at...)
			wantReached(t, c, match, paperReached(c, match))
		}
	}
}

func TestReachedOverNoConfiguration(t *testing.T) {
	for _, c := range noConfs {
		var match []api.Item
		for _, n := range c {
			match = append(match, api.Item{Id: n, At: 5})
		}
		wantReached(t, c, nil, 0)
		wantReached(t, c, match, 0)
		for i := range match {
			match[i].At = -5
		}
		wantReached(t, c, match, 0)
	}
}

func TestReachedOfLongLists(t *testing.T) {
	c := []int{1, 2, 3}
	var match []api.Item
	for n := range 100000 {
		match = append(match, api.Item{Id: n%4 + 1, At: int64(n)})
	}
	wantReached(t, c, match, 99997)
}

func TestNext(t *testing.T) {
	c := []int{3, 5, 7}
	wantNext(t, c, 1, 0, 1, 3, 5, 7)
	wantNext(t, c, 2, 0, 2, 3, 5, 7)
	wantNext(t, c, 4, 0, 3, 4, 5, 7)
	wantNext(t, c, 6, 0, 3, 5, 6, 7)
	wantNext(t, c, 8, 0, 3, 5, 7, 8)
	wantNext(t, c, math.MaxInt, 0, 3, 5, 7, math.MaxInt)
	wantNext(t, c, 0, 3, 5, 7)
	wantNext(t, c, 0, 5, 3, 7)
	wantNext(t, c, 0, 7, 3, 5)
	wantNext(t, c, 1, 7, 1, 3, 5)
	wantNext(t, c, 9, 3, 5, 7, 9)
	wantNext(t, c, 4, 5, 3, 4, 7)
	wantNext(t, c, 6, 5, 3, 6, 7)
	wantNext(t, c, 4, 3, 4, 5, 7)
	wantNext(t, c, 6, 7, 3, 5, 6)
	wantNext(t, []int{1, math.MaxInt - 1}, math.MaxInt, 1, math.MaxInt-1, math.MaxInt)
	wantNext(t, []int{1, math.MaxInt}, 1<<32+1, 0, 1, 1<<32+1, math.MaxInt)
}

// With both numbers 0 a configuration stays.
func TestNextOfNothing(t *testing.T) {
	for _, c := range confs {
		wantNext(t, c, 0, 0, c...)
	}
}

func TestNextRefused(t *testing.T) {
	c := []int{3, 5, 7}
	for _, n := range c {
		wantNoNext(t, c, n, 0)
		wantNoNext(t, c, n, n) // the same number for both, in conf
		wantNoNext(t, c, n, 3)
		wantNoNext(t, c, n, 7)
	}
	for _, n := range []int{1, 2, 4, 6, 8, 1<<32 + 5, math.MaxInt} {
		wantNoNext(t, c, 0, n)
		wantNoNext(t, c, 9, n)
		wantNoNext(t, c, n, n) // and not in conf
	}
	for _, n := range noNodes[:len(noNodes)-1] {
		wantNoNext(t, c, n, 0)
		wantNoNext(t, c, 0, n)
		wantNoNext(t, c, n, n)
		wantNoNext(t, c, n, 5)
		wantNoNext(t, c, 4, n)
	}
	wantNoNext(t, c, -3, 3)
	wantNoNext(t, c, -4, 0)
	wantNoNext(t, c, 0, -5)
	wantNoNext(t, c, 4, -5)
}

// A configuration of MaxNodes nodes takes one more only where one goes; one of one node loses it only where one comes.
func TestNextAtTheLimits(t *testing.T) {
	full := []int{2, 4, 6, 8, 10, 12, 14}
	for _, add := range []int{1, 3, 9, 15, math.MaxInt} {
		wantNoNext(t, full, add, 0)
		for _, remove := range full {
			want := append(slices.DeleteFunc(slices.Clone(full), func(n int) bool { return n == remove }), add)
			slices.Sort(want)
			wantNext(t, full, add, remove, want...)
		}
	}
	for _, remove := range full {
		want := slices.DeleteFunc(slices.Clone(full), func(n int) bool { return n == remove })
		wantNext(t, full, 0, remove, want...)
		wantNext(t, want, remove, 0, full...)
	}
	for _, n := range []int{1, 2, 1 << 32, math.MaxInt} {
		wantNoNext(t, []int{n}, 0, n)
		wantNext(t, []int{n}, 3, n, 3)
		wantNoNext(t, []int{n}, n, n)
		wantNext(t, []int{n}, 0, 0, n)
	}
	wantNext(t, []int{5}, 4, 0, 4, 5)
	wantNext(t, []int{5}, 6, 0, 5, 6)
	wantNext(t, []int{5, 6}, 0, 5, 6)
	wantNext(t, []int{5, 6}, 0, 6, 5)
}

func TestNextOfNoConfiguration(t *testing.T) {
	for _, c := range noConfs {
		wantNoNext(t, c, 0, 0)
		wantNoNext(t, c, 4, 0)
		wantNoNext(t, c, math.MaxInt-7, 0)
		for _, n := range c { // the outcome may be one: still it is refused
			wantNoNext(t, c, 0, n)
			wantNoNext(t, c, 4, n)
		}
	}
}

// Each configuration with each number, right or wrong, for add and for remove.
func TestNextOfEachTwo(t *testing.T) {
	all := slices.Concat(noNodes, nodes, []int{4, 5, 6, 7, 8, 9, 10, 11, 12, 100, 1000, 10000, 1 << 32})
	for _, c := range slices.Concat(confs, noConfs) {
		for _, add := range all {
			for _, remove := range all {
				holdNext(t, c, add, remove)
			}
		}
	}
}

func holdNext(t testing.TB, conf []int, add, remove int) {
	t.Helper()
	want, e := paperNext(conf, add, remove)
	if e != api.OK {
		wantNoNext(t, conf, add, remove)
		return
	}
	wantNext(t, conf, add, remove, want...)
	wantCheck(t, want, true)
}

// winners is, for each configuration of some numbers, as bits, the sets of these numbers, as bits, that win over it.
func winners(all []int) map[int][]int {
	won := map[int][]int{}
	for conf := range 1 << len(all) {
		c := masked(all, conf)
		if !quorum.Check(c) {
			continue
		}
		won[conf] = nil
		for set := range 1 << len(all) {
			if quorum.Wins(c, masked(all, set)) {
				won[conf] = append(won[conf], set)
			}
		}
	}
	return won
}

// wantMeet: each two sets of two lists have a node of both configurations in common.
func wantMeet(t testing.TB, all []int, won map[int][]int, a, b int) {
	t.Helper()
	for _, s := range won[a] {
		for _, u := range won[b] {
			if s&u&a&b == 0 {
				t.Fatalf("P12.4: %v wins over %v, %v over %v: they don't meet", masked(all, s), masked(all, a), masked(all, u), masked(all, b))
			}
		}
	}
}

// All sets of all configurations of eight numbers, and of their neighbours, as Next tells them.
func TestWinnersMeet(t *testing.T) {
	for _, all := range [][]int{{1, 2, 3, 4, 5, 6, 7, 8}, nodes[:8], nodes[2:]} {
		won := winners(all)
		if len(won) != 254 {
			t.Fatalf("P12.1: %d configurations of %v, want 254", len(won), all)
		}
		neighbours := 0
		for conf, sets := range won {
			if !slices.Contains(sets, conf) {
				t.Fatalf("P12.1: the nodes of %v don't win over it", masked(all, conf))
			}
			wantMeet(t, all, won, conf, conf)
			for i, n := range all {
				add, remove := n, 0
				if conf>>i&1 == 1 {
					add, remove = 0, n
				}
				next, e := quorum.Next(masked(all, conf), add, remove)
				if e != api.OK {
					continue
				}
				if !slices.Equal(next, masked(all, conf^1<<i)) {
					t.Fatalf("P12.3: with or without %d, %v comes to %v", n, masked(all, conf), next)
				}
				neighbours++
				wantMeet(t, all, won, conf, conf^1<<i)
			}
		}
		if neighbours != 254*8-8-8 {
			t.Errorf("%d neighbours were looked at", neighbours)
		}
	}
}

// A set that wins over two meets each that wins over one of them, however far the two are from each other.
func TestWinnersOverTwoMeet(t *testing.T) {
	all := []int{1, 2, 3, 4, 5, 6}
	won := winners(all)
	for a, first := range won {
		for b, second := range won {
			for set := range 1 << len(all) {
				if !quorum.Both(masked(all, a), masked(all, b), masked(all, set)) {
					continue
				}
				for _, s := range first {
					if s&set&a == 0 {
						t.Fatalf("P12.4: %v and %v don't meet in %v", masked(all, s), masked(all, set), masked(all, a))
					}
				}
				for _, s := range second {
					if s&set&b == 0 {
						t.Fatalf("P12.4: %v and %v don't meet in %v", masked(all, s), masked(all, set), masked(all, b))
					}
				}
			}
		}
	}
}

// number is a number by chance: most often a small one, else one of the tables'.
func number(r *rand.Rand) int {
	switch r.Intn(8) {
	case 0:
		return noNodes[r.Intn(len(noNodes))]
	case 1:
		return nodes[r.Intn(len(nodes))]
	default:
		return r.Intn(11)
	}
}

func numbers(r *rand.Rand, most int) []int {
	var l []int
	for range r.Intn(most + 1) {
		l = append(l, number(r))
	}
	return l
}

// list is a list by chance: most often a configuration, else one with a fault, or any numbers.
func list(r *rand.Rand) []int {
	l := numbers(r, 12)
	if r.Intn(8) == 0 {
		return l
	}
	l = slices.DeleteFunc(l, func(n int) bool { return n < 1 })
	slices.Sort(l)
	l = slices.Compact(l)
	if r.Intn(6) == 0 && len(l) > 0 {
		l[r.Intn(len(l))] = number(r)
	}
	return l
}

// items are what some nodes have reached, by chance, some of them twice, some not at all, and some of other numbers.
func items(r *rand.Rand, conf []int) []api.Item {
	var l []api.Item
	for range r.Intn(14) {
		m := api.Item{Id: number(r), At: int64(r.Intn(9) - 4)}
		if len(conf) > 0 && r.Intn(5) > 0 {
			m.Id = conf[r.Intn(len(conf))]
		}
		switch r.Intn(6) {
		case 0:
			m.At = ends[r.Intn(len(ends))]
		case 1:
			m.At = int64(r.Uint64())
		}
		l = append(l, m)
	}
	return l
}

func TestByChance(t *testing.T) {
	r := rand.New(rand.NewSource(3))
	right, won, made := 0, 0, 0
	for range 200000 {
		c, d, set := list(r), list(r), numbers(r, 14)
		match, add, remove := items(r, c), number(r), number(r)
		if len(c) > 0 && r.Intn(2) == 0 {
			remove = c[r.Intn(len(c))]
		}
		wantCheck(t, c, paperCheck(c))
		wantWins(t, c, set, paperWins(c, set))
		wantBoth(t, c, d, set, paperWins(c, set) && paperWins(d, set))
		wantReached(t, c, match, paperReached(c, match))
		holdNext(t, c, add, remove)
		if t.Failed() {
			return
		}
		if paperCheck(c) {
			right++
		}
		if paperWins(c, set) {
			won++
		}
		if _, e := paperNext(c, add, remove); e == api.OK {
			made++
		}
	}
	if right < 50000 || won < 10000 || made < 20000 {
		t.Errorf("chance was one-sided: %d configurations, %d sets that win, %d neighbours", right, won, made)
	}
}

// room is a list with spare room behind it, in which numbers stand that would make a difference.
func room(l []int, spare ...int) []int {
	return slices.Concat(l, spare)[:len(l)]
}

// No call changes what is handed in, its spare room neither, and what stands in that room says nothing.
func TestArgumentsStay(t *testing.T) {
	r := rand.New(rand.NewSource(4))
	for range 20000 {
		c, d, set := list(r), list(r), numbers(r, 9)
		match, add, remove := items(r, c), number(r), number(r)
		if len(c) > 0 && r.Intn(2) == 0 {
			remove = c[r.Intn(len(c))]
		}
		c2, d2, set2 := room(c, 1, 2, 3, 4), room(d, 5, 6, 0), room(set, 1, 2, 3, 4, 5, 6, 7, 8, 9, 10)
		match2 := slices.Concat(match, ats([]int{1, 2, 3, 4, 5, 6}, 8, 8, 8, 8, 8, 8))[:len(match)]
		wantCheck(t, c2, paperCheck(c))
		wantWins(t, c2, set2, paperWins(c, set))
		wantBoth(t, c2, d2, set2, paperWins(c, set) && paperWins(d, set))
		wantReached(t, c2, match2, paperReached(c, match))
		holdNext(t, c2, add, remove)
		if !slices.Equal(c2[:len(c)+4], slices.Concat(c, []int{1, 2, 3, 4})) || !slices.Equal(d2[:len(d)+3], slices.Concat(d, []int{5, 6, 0})) {
			t.Fatalf("rule 5: a configuration was changed: %v, %v", c2[:len(c)+4], d2[:len(d)+3])
		}
		if !slices.Equal(set2[:len(set)+10], slices.Concat(set, []int{1, 2, 3, 4, 5, 6, 7, 8, 9, 10})) {
			t.Fatalf("rule 5: a set was changed: %v", set2[:len(set)+10])
		}
		if !slices.Equal(match2[:len(match)+6], slices.Concat(match, ats([]int{1, 2, 3, 4, 5, 6}, 8, 8, 8, 8, 8, 8))) {
			t.Fatalf("rule 5: what nodes have reached was changed: %v", match2[:len(match)+6])
		}
		if t.Failed() {
			return
		}
	}
}

// spoil writes over a list, its spare room too.
func spoil(l []int) {
	l = l[:cap(l)]
	for i := range l {
		l[i] = -7
	}
}

// An answer is new memory: whoever writes into it changes no argument and no other answer, nor is it changed by way of the argument.
func TestNextIsNew(t *testing.T) {
	for _, c := range confs {
		for _, add := range []int{0, 4, math.MaxInt - 3} {
			for _, remove := range append([]int{0}, c...) {
				want, e := paperNext(c, add, remove)
				if e != api.OK {
					continue
				}
				conf := room(c, 70, 80, 90)
				first, _ := quorum.Next(conf, add, remove)
				second, _ := quorum.Next(conf, add, remove)
				spoil(first)
				if !slices.Equal(second, want) {
					t.Fatalf("rule 5: an answer was changed by way of another one: %v", second)
				}
				if !slices.Equal(conf[:len(c)+3], slices.Concat(c, []int{70, 80, 90})) {
					t.Fatalf("rule 5: a configuration was changed by way of an answer: %v", conf[:len(c)+3])
				}
				spoil(conf)
				if !slices.Equal(second, want) {
					t.Fatalf("rule 5: an answer was changed by way of the configuration: %v", second)
				}
				wantNext(t, c, add, remove, want...)
			}
		}
	}
}

// One list may be handed in for all.
func TestOneListForAll(t *testing.T) {
	for _, c := range confs {
		l := slices.Clone(c)
		wantBoth(t, l, l, l, true)
		wantWins(t, l, l, true)
		if !slices.Equal(l, c) {
			t.Errorf("rule 5: %v was changed to %v", c, l)
		}
	}
}
