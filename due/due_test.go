package due_test

import (
	"fmt"
	"math"
	"math/rand"
	"slices"
	"sync"
	"testing"
	"time"

	"matins/api"
	"matins/cron"
	"matins/due"
	"matins/zone"
)

const (
	firstYear = 1970
	lastYear  = 2399
	dayLength = 24 * 60
	mostTold  = 1000
)

// odd are right zones at the edges of what is right, beside those that have names.
var odd = []api.Zone{
	{Base: -720}, {Base: 840}, {Base: -1}, {Base: 1},
	// Save of 0 beside two right rules: no clock is turned.
	{Base: 60, On: api.Rule{Month: 3, Week: 5, At: 60}, Off: api.Rule{Month: 10, Week: 5, At: 60}},
	// Clocks that are turned in the first hours of 1970 and in the last ones of 2399.
	{Base: 60, Save: 120, On: api.Rule{Month: 1, Week: 1, Day: 4, At: 30}, Off: api.Rule{Month: 12, Week: 5, Day: 5, At: 1300}},
	{Base: -720, Save: 120, On: api.Rule{Month: 12, Week: 5, Day: 5, At: 1300}, Off: api.Rule{Month: 1, Week: 1, Day: 4, At: 610}},
	{Base: -720, Save: 120, On: api.Rule{Month: 1, Week: 1, Day: 4, At: 659}, Off: api.Rule{Month: 12, Week: 5, Day: 5, At: 1439}},
	{Base: 840, Save: 120, On: api.Rule{Month: 12, Week: 5, Day: 5, At: 1}, Off: api.Rule{Month: 1, Week: 1, Day: 4, At: 1}},
	// The least Save; one that isn't whole hours; offsets on either side of 0.
	{Base: 0, Save: 1, On: api.Rule{Month: 4, Week: 2, Day: 3, At: 717}, Off: api.Rule{Month: 9, Week: 3, Day: 1, At: 59}},
	{Base: 17, Save: 97, On: api.Rule{Month: 2, Week: 5, Day: 4, At: 1439}, Off: api.Rule{Month: 3, Week: 1, Day: 5}},
	{Base: -60, Save: 120, On: api.Rule{Month: 6, Week: 5, Day: 6, At: 1400}, Off: api.Rule{Month: 7, Week: 1, Day: 0, At: 20}},
	{Base: 0, Save: 120, On: api.Rule{Month: 8, Week: 1, Day: 4}, Off: api.Rule{Month: 7, Week: 5, Day: 3, At: 1439}},
}

// texts of expressions: often, seldom, by days, by weekdays, by either, by both.
var texts = []string{
	"* * * * *", "*/7 * * * *", "0 * * * *", "59 * * * *", "30 2 * * *", "0,59 1-3 * * *", "15-45/15 */5 * * *",
	"59 23 * * *", "0 0 * * *", "17 11 * * 0", "0 12 * * 1-5", "5 5 1 * *", "0 0 31 * *", "30 1 29 2 *", "0 0 28-31 2 *",
	"0 0 13 * 5", "30 2 1-7 3,10 0", "* 2 * 3,10,4 0", "0 0 1 1 *", "59 23 31 12 *", "45 23 28 * *", "1 0 1,29 * *",
	"*/13 1,23 * 2-12/3 6", "0 3 1-31 * 1", "0 3 1 * 0-6", "10 4 */2 1,12 */3",
}

// noInstants may stand nowhere.
var noInstants = []int64{-2, -3, api.MaxTime + 1, api.MaxTime + 2, math.MinInt64, math.MinInt64 + 1, math.MaxInt64, math.MaxInt64 - 1, math.MinInt32, 1 << 32, -1 << 32}

// wrongCrons aren't right, each by one field.
func wrongCrons(t testing.TB) []api.Cron {
	var all []api.Cron
	for _, spoil := range []func(c *api.Cron){
		func(c *api.Cron) { c.Minute = 0 },
		func(c *api.Cron) { c.Hour = 0 },
		func(c *api.Cron) { c.Day = 0 },
		func(c *api.Cron) { c.Month = 0 },
		func(c *api.Cron) { c.Week = 0 },
		func(c *api.Cron) { c.Minute |= 1 << 60 },
		func(c *api.Cron) { c.Hour |= 1 << 24 },
		func(c *api.Cron) { c.Day |= 1 },
		func(c *api.Cron) { c.Month |= 1 << 13 },
		func(c *api.Cron) { c.Week |= 1 << 7 },
		func(c *api.Cron) { c.Day &^= 1 << 31 },
		func(c *api.Cron) { c.Week &^= 1 },
		func(c *api.Cron) { *c = api.Cron{} },
	} {
		c := parsed(t, "* * * * *")
		spoil(&c)
		all = append(all, c)
	}
	return all
}

var wrongZones = []api.Zone{
	{Base: 841}, {Base: -721}, {Save: 60}, {Save: -1}, {Base: math.MaxInt}, {Base: math.MinInt},
	{On: api.Rule{Month: 1, Week: 1}},
	{Save: 121, On: api.Rule{Month: 3, Week: 5}, Off: api.Rule{Month: 10, Week: 5}},
	{Save: 60, On: api.Rule{Month: 3, Week: 5}, Off: api.Rule{Month: 3, Week: 1}},
	{Save: 60, On: api.Rule{Month: 3, Week: 5, At: 1440}, Off: api.Rule{Month: 10, Week: 5}},
}

func parsed(t testing.TB, text string) api.Cron {
	t.Helper()
	c, _, e := cron.Parse(text)
	if e != api.OK {
		t.Fatalf("layer 6: Parse(%q): %d", text, e)
	}
	return c
}

func ruled(t testing.TB, name string) api.Zone {
	t.Helper()
	z, e := zone.Named(name)
	if e != api.OK {
		t.Fatalf("layer 5: Named(%q): %d", name, e)
	}
	return z.Rules()
}

func allZones(t testing.TB) []api.Zone {
	var all []api.Zone
	for _, name := range zone.Names() {
		all = append(all, ruled(t, name))
	}
	return append(all, odd...)
}

// at is the instant of a minute by the library's calendar (UTC).
func at(year, month, day, hour, minute int) int64 {
	return time.Date(year, time.Month(month), day, hour, minute, 0, 0, time.UTC).Unix() / 60
}

// clocks is a zone as the chapters tell it, read plainly, with the instants at which its rules turn clocks kept by years.
type clocks struct {
	rules api.Zone
	on    map[int]int64
	off   map[int]int64
}

func clocksOf(z api.Zone) clocks {
	return clocks{z, map[int]int64{}, map[int]int64{}}
}

// moment counts the days of a month until the rule's one is found, and keeps it.
func moment(kept map[int]int64, r api.Rule, year int) int64 {
	if t, ok := kept[year]; ok {
		return t
	}
	count, found := 0, 0
	for d := 1; time.Date(year, time.Month(r.Month), d, 0, 0, 0, 0, time.UTC).Month() == time.Month(r.Month); d++ {
		if int(time.Date(year, time.Month(r.Month), d, 0, 0, 0, 0, time.UTC).Weekday()) == r.Day {
			if count++; count <= r.Week {
				found = d
			}
		}
	}
	kept[year] = at(year, r.Month, found, 0, 0) + int64(r.At)
	return kept[year]
}

func (k clocks) offset(t int64) int {
	if k.rules.Save == 0 {
		return k.rules.Base
	}
	year := time.Unix(t*60, 0).UTC().Year()
	on, off := moment(k.on, k.rules.On, year), moment(k.off, k.rules.Off, year)
	saves := on <= t && t < off
	if off < on {
		saves = !(off <= t && t < on)
	}
	if saves {
		return k.rules.Base + k.rules.Save
	}
	return k.rules.Base
}

// turns are the instants at which the clocks are turned in a year; none where there is no Save.
func (k clocks) turns(year int) []int64 {
	if k.rules.Save == 0 {
		return nil
	}
	return []int64{moment(k.on, k.rules.On, year), moment(k.off, k.rules.Off, year)}
}

// minuteOf is a minute by the library's calendar; none, if t is no instant.
func minuteOf(t int64) (api.Civil, bool) {
	if t < 0 || t > api.MaxTime {
		return api.Civil{}, false
	}
	w := time.Unix(t*60, 0).UTC()
	return api.Civil{Year: w.Year(), Month: int(w.Month()), Day: w.Day(), Hour: w.Hour(), Minute: w.Minute(), Week: int(w.Weekday())}, true
}

// fitsDay and fits take an expression by its bits.
func fitsDay(c api.Cron, m api.Civil) bool {
	month := c.Month&(1<<m.Month) != 0
	day := c.Day&(1<<m.Day) != 0
	week := c.Week&(1<<m.Week) != 0
	if c.AnyDay || c.AnyWeek {
		return month && day && week
	}
	return month && (day || week)
}

func fits(c api.Cron, m api.Civil) bool {
	return fitsDay(c, m) && c.Hour&(1<<m.Hour) != 0 && c.Minute&(1<<m.Minute) != 0
}

// locals are the local minutes of a window, both ends with it, by their instants.
func (k clocks) locals(from, to int64) map[int64]api.Civil {
	all := map[int64]api.Civil{}
	for t := from; t <= to; t++ {
		if m, ok := minuteOf(t + int64(k.offset(t))); ok {
			all[t] = m
		}
	}
	return all
}

// list finds all occurrences up to MaxTime by local days: each local minute that fits is looked for at each offset of the zone.
func (k clocks) list(c api.Cron) []int64 {
	var found []int64
	for day := int64(0); day <= api.MaxTime; day += dayLength {
		if m, _ := minuteOf(day); !fitsDay(c, m) {
			continue
		}
		for m := range int64(dayLength) {
			if c.Hour&(1<<(m/60)) == 0 || c.Minute&(1<<(m%60)) == 0 {
				continue
			}
			for _, save := range []int{0, k.rules.Save} {
				t := day + m - int64(k.rules.Base+save)
				if t >= 0 && t <= api.MaxTime && k.offset(t) == k.rules.Base+save {
					found = append(found, t)
				}
			}
		}
	}
	slices.Sort(found)
	return slices.Compact(found)
}

// windows are spans of instants in which something may go wrong: the ends of the instants, turns of the clocks, the ends of a year and of Februaries; and one by chance.
func (k clocks) windows(r *rand.Rand) [][2]int64 {
	const half = 3 * dayLength / 2
	all := [][2]int64{{0, 2 * half}, {api.MaxTime - 2*half, api.MaxTime}}
	add := func(t int64) { all = append(all, [2]int64{max(t-half, 0), min(t+half, api.MaxTime)}) }
	for _, year := range []int{firstYear, 2024, lastYear} {
		for _, t := range k.turns(year) {
			add(t)
		}
	}
	for _, year := range []int{2024, 2100} {
		add(at(year, 3, 1, 0, 0))
	}
	add(at(2024, 1, 1, 0, 0))
	add(r.Int63n(api.MaxTime + 1))
	return all
}

// holdNext holds what Next answers against an answer.
func holdNext(t testing.TB, c api.Cron, z api.Zone, after, want int64, wantErr api.Errno) {
	t.Helper()
	if n, e := due.Next(c, z, after); n != want || e != wantErr {
		t.Errorf("P7.2: Next(%+v, %+v, %d): %d, %d, want %d, %d", c, z, after, n, e, want, wantErr)
	}
}

// holdBetween holds what Between answers against an answer.
func holdBetween(t testing.TB, c api.Cron, z api.Zone, from, to int64, most int, want []int64, wantErr api.Errno) {
	t.Helper()
	l, e := due.Between(c, z, from, to, most)
	if !slices.Equal(l, want) || e != wantErr {
		t.Errorf("P7.3: Between(%+v, %+v, %d, %d, %d): %s, %d, want %s, %d", c, z, from, to, most, brief(l), e, brief(want), wantErr)
	}
}

// brief tells a list's length and its beginning.
func brief(l []int64) string { return fmt.Sprint(len(l), " of ", l[:min(len(l), 5)]) }

// chain is what Next tells again and again, above from, up to to, at most so many.
func chain(t testing.TB, c api.Cron, z api.Zone, from, to int64, most int) []int64 {
	t.Helper()
	var found []int64
	for len(found) < most {
		n, e := due.Next(c, z, from)
		if e == api.ErrNone || n > to {
			break
		}
		if e != api.OK || n <= from {
			t.Fatalf("P7.2: Next(%+v, %+v, %d): %d, %d", c, z, from, n, e)
		}
		found = append(found, n)
		from = n
	}
	return found
}

func TestChapterExamples(t *testing.T) {
	halfPastTwo, berlin, utc := parsed(t, "30 2 * * *"), ruled(t, "berlin"), ruled(t, "utc")
	holdNext(t, halfPastTwo, berlin, at(2024, 3, 30, 12, 0), at(2024, 4, 1, 0, 30), api.OK)
	autumn := []int64{at(2024, 10, 27, 0, 30), at(2024, 10, 27, 1, 30), at(2024, 10, 28, 1, 30)}
	after := at(2024, 10, 26, 12, 0)
	holdBetween(t, halfPastTwo, berlin, after, api.MaxTime, 3, autumn, api.OK)
	for _, want := range autumn {
		holdNext(t, halfPastTwo, berlin, after, want, api.OK)
		if !due.Is(halfPastTwo, berlin, want) {
			t.Errorf("P7.1: Is at %d: false", want)
		}
		after = want
	}
	for _, z := range allZones(t) {
		holdNext(t, parsed(t, "0 0 30 2 *"), z, -1, 0, api.ErrNone)
	}
	holdNext(t, parsed(t, "0 0 29 2 *"), utc, at(2096, 3, 1, 0, 0), at(2104, 2, 29, 0, 0), api.OK)
	holdNext(t, parsed(t, "* * * * *"), utc, -1, 0, api.OK)
}

// An hour that clocks leave out has no occurrence, one that comes twice has two of each.
func TestTurnedHours(t *testing.T) {
	for _, r := range []struct {
		zone, text string
		from, to   int64
		want       []int64
	}{
		// 2024-03-31, berlin: behind 01:59 comes 03:00.
		{zone: "berlin", text: "* 2 31 3 *", from: at(2024, 3, 30, 20, 0), to: at(2024, 3, 31, 20, 0)},
		{zone: "berlin", text: "59 1-3 31 3 *", from: at(2024, 3, 30, 20, 0), to: at(2024, 3, 31, 20, 0), want: []int64{at(2024, 3, 31, 0, 59), at(2024, 3, 31, 1, 59)}},
		{zone: "berlin", text: "0 0-4 31 3 *", from: at(2024, 3, 30, 20, 0), to: at(2024, 3, 31, 20, 0), want: []int64{at(2024, 3, 30, 23, 0), at(2024, 3, 31, 0, 0), at(2024, 3, 31, 1, 0), at(2024, 3, 31, 2, 0)}},
		// 2024-10-27, berlin: behind 02:59 comes 02:00.
		{zone: "berlin", text: "0,59 2 27 10 *", from: at(2024, 10, 26, 20, 0), to: at(2024, 10, 27, 20, 0), want: []int64{at(2024, 10, 27, 0, 0), at(2024, 10, 27, 0, 59), at(2024, 10, 27, 1, 0), at(2024, 10, 27, 1, 59)}},
		{zone: "berlin", text: "0 1,3 27 10 *", from: at(2024, 10, 26, 20, 0), to: at(2024, 10, 27, 20, 0), want: []int64{at(2024, 10, 26, 23, 0), at(2024, 10, 27, 2, 0)}},
		// 2024-03-10 and 2024-11-03, newyork.
		{zone: "newyork", text: "30 2 10 3 *", from: at(2024, 3, 10, 0, 0), to: at(2024, 3, 11, 0, 0)},
		{zone: "newyork", text: "30 1 3 11 *", from: at(2024, 11, 3, 0, 0), to: at(2024, 11, 4, 0, 0), want: []int64{at(2024, 11, 3, 5, 30), at(2024, 11, 3, 6, 30)}},
		// howe turns by half an hour: from 10:30 to 11:00 in October, from 11:00 to 10:30 in April.
		{zone: "howe", text: "*/15 10 6 10 *", from: at(2024, 10, 5, 14, 0), to: at(2024, 10, 6, 14, 0), want: []int64{at(2024, 10, 5, 23, 30), at(2024, 10, 5, 23, 45)}},
		{zone: "howe", text: "30,45 10 7 4 *", from: at(2024, 4, 6, 14, 0), to: at(2024, 4, 7, 14, 0), want: []int64{at(2024, 4, 6, 23, 30), at(2024, 4, 6, 23, 45), at(2024, 4, 7, 0, 0), at(2024, 4, 7, 0, 15)}},
	} {
		c, z := parsed(t, r.text), ruled(t, r.zone)
		holdBetween(t, c, z, r.from, r.to, mostTold, r.want, api.OK)
		if got := chain(t, c, z, r.from, r.to, mostTold); !slices.Equal(got, r.want) {
			t.Errorf("P7.2: %q in %s from %d on: %v, want %v", r.text, r.zone, r.from, got, r.want)
		}
		for m := r.from; m <= r.to; m++ {
			if got := due.Is(c, z, m); got != slices.Contains(r.want, m) {
				t.Fatalf("P7.1: Is(%q, %s, %d): %v", r.text, r.zone, m, got)
			}
		}
	}
}

// In each window, the three calls tell what going through it minute by minute finds.
func TestWindows(t *testing.T) {
	for i, z := range allZones(t) {
		t.Run(fmt.Sprint(i), func(t *testing.T) {
			t.Parallel()
			r := rand.New(rand.NewSource(int64(i)))
			k := clocksOf(z)
			for _, w := range k.windows(r) {
				locals := k.locals(w[0], w[1])
				for _, text := range texts {
					c := parsed(t, text)
					var found []int64
					for m := w[0]; m <= w[1]; m++ {
						if local, ok := locals[m]; ok && fits(c, local) {
							found = append(found, m)
						}
					}
					holdWindow(t, r, k, c, w[0], w[1], found)
				}
			}
		})
	}
}

// holdWindow holds the three calls against what was found from one instant to another.
func holdWindow(t *testing.T, r *rand.Rand, k clocks, c api.Cron, from, to int64, found []int64) {
	t.Helper()
	for _, m := range k.asked(r, from, to, found) {
		i, here := slices.BinarySearch(found, m)
		if here {
			i++
		}
		rest := found[i:]
		if len(rest) > 0 {
			holdNext(t, c, k.rules, m, rest[0], api.OK)
		} else if n, e := due.Next(c, k.rules, m); e == api.OK && n <= to || e != api.OK && (e != api.ErrNone || n != 0) {
			t.Errorf("P7.2: Next(%+v, %+v, %d): %d, %d, want none up to %d", c, k.rules, m, n, e, to)
		}
		if got := due.Is(c, k.rules, m); got != here {
			t.Errorf("P7.1: Is(%+v, %+v, %d): %v", c, k.rules, m, got)
		}
		end, most := m+r.Int63n(to-m+1), r.Intn(20)
		if r.Intn(2) == 0 {
			most = mostTold
		}
		count, _ := slices.BinarySearch(rest, end+1)
		holdBetween(t, c, k.rules, m, end, most, rest[:min(count, most)], api.OK)
	}
}

// asked are instants of a window: its ends, the turns, what stands ahead of and at an occurrence, and one by chance.
func (k clocks) asked(r *rand.Rand, from, to int64, found []int64) []int64 {
	all := []int64{from, to, from + r.Int63n(to-from)}
	for _, year := range []int{firstYear, 2024, lastYear} {
		for _, turn := range k.turns(year) {
			all = append(all, turn-1, turn)
		}
	}
	if len(found) > 0 {
		m := found[r.Intn(len(found))]
		all = append(all, m-1, m)
	}
	all = slices.DeleteFunc(all, func(m int64) bool { return m < from || m > to })
	if from == 0 {
		all = append(all, -1)
	}
	return all
}

// Seldom ones, over all instants: Between, asked on and on, tells what looking at each local day finds.
func TestAllInstants(t *testing.T) {
	zones := allZones(t)
	for i, text := range []string{
		"30 2 * * 0", "0 0 29 2 *", "30 2 31 3 *", "59 23 31 12 *", "0 0 1 1 *", "17 5 13 * 5", "0 12 30,31 * *", "40 1 28-31 2,3 *",
		"0 0 31 4,6,9,11 *", "0,30 2,3 * 10 0", "10 0 1 * *", "30 1,2 29 2 0",
	} {
		t.Run(text, func(t *testing.T) {
			t.Parallel()
			for j := i % 3; j < len(zones); j += 3 {
				holdAll(t, text, zones[j])
			}
		})
	}
}

func holdAll(t *testing.T, text string, z api.Zone) {
	t.Helper()
	c := parsed(t, text)
	want := clocksOf(z).list(c)
	var got []int64
	from := int64(-1)
	for {
		l, e := due.Between(c, z, from, api.MaxTime, mostTold)
		if e != api.OK || len(l) > mostTold {
			t.Fatalf("P7.3: %q in %+v above %d: %d of them, %d", text, z, from, len(l), e)
		}
		got = append(got, l...)
		if len(l) < mostTold {
			break
		}
		from = l[len(l)-1]
	}
	if !slices.Equal(got, want) {
		t.Errorf("P7.3: %q in %+v: %s, want %s", text, z, brief(got), brief(want))
	}
	if len(want) == 0 {
		holdNext(t, c, z, -1, 0, api.ErrNone)
		return
	}
	last := want[len(want)-1]
	holdNext(t, c, z, -1, want[0], api.OK)
	holdNext(t, c, z, last-1, last, api.OK)
	holdNext(t, c, z, last, 0, api.ErrNone)
}

// Between tells just what Next tells again and again.
func TestBetweenIsNextAgain(t *testing.T) {
	r := rand.New(rand.NewSource(7))
	zones := allZones(t)
	for _, text := range texts {
		c := parsed(t, text)
		for range 6 {
			z := zones[r.Intn(len(zones))]
			from := r.Int63n(api.MaxTime+2) - 1
			to := min(from+r.Int63n(1<<uint(4+r.Intn(20))), api.MaxTime)
			most := r.Intn(40)
			holdBetween(t, c, z, from, to, most, chain(t, c, z, from, to, most), api.OK)
		}
	}
	c, z := parsed(t, "*/5 * * * *"), ruled(t, "sydney")
	from := at(2024, 4, 5, 0, 0)
	holdBetween(t, c, z, from, api.MaxTime, mostTold, chain(t, c, z, from, api.MaxTime, mostTold), api.OK)
}

// The ends of what is allowed.
func TestEnds(t *testing.T) {
	every, utc := parsed(t, "* * * * *"), api.Zone{}
	holdNext(t, every, utc, -1, 0, api.OK)
	holdNext(t, every, utc, 0, 1, api.OK)
	holdNext(t, every, utc, api.MaxTime-1, api.MaxTime, api.OK)
	holdNext(t, every, utc, api.MaxTime, 0, api.ErrNone)
	holdNext(t, parsed(t, "59 23 31 12 *"), utc, api.MaxTime-1, api.MaxTime, api.OK)
	holdNext(t, parsed(t, "58 23 31 12 *"), utc, api.MaxTime-1, 0, api.ErrNone)
	holdNext(t, parsed(t, "0 0 1 1 *"), utc, -1, 0, api.OK)
	holdNext(t, parsed(t, "0 0 1 1 *"), utc, at(2399, 1, 1, 0, 0), 0, api.ErrNone)

	holdBetween(t, every, utc, -1, 0, 1, []int64{0}, api.OK)
	holdBetween(t, every, utc, -1, -1, 1000, nil, api.OK)
	holdBetween(t, every, utc, 0, -1, 1000, nil, api.OK)
	holdBetween(t, every, utc, 0, 0, 1000, nil, api.OK)
	holdBetween(t, every, utc, 0, 1, 1000, []int64{1}, api.OK)
	holdBetween(t, every, utc, api.MaxTime, -1, 1000, nil, api.OK)
	holdBetween(t, every, utc, api.MaxTime, api.MaxTime, 1000, nil, api.OK)
	holdBetween(t, every, utc, api.MaxTime-1, api.MaxTime, 1000, []int64{api.MaxTime}, api.OK)
	holdBetween(t, every, utc, 50, 40, 5, nil, api.OK)
	holdBetween(t, every, utc, -1, api.MaxTime, 0, nil, api.OK)
	holdBetween(t, every, utc, -1, api.MaxTime, 1, []int64{0}, api.OK)
	thousand := make([]int64, mostTold)
	for i := range thousand {
		thousand[i] = int64(i) + 10
	}
	holdBetween(t, every, utc, 9, api.MaxTime, 1000, thousand, api.OK)
	holdBetween(t, every, utc, 9, 1008, 1000, thousand[:999], api.OK)
	holdBetween(t, every, utc, 9, 1009, 999, thousand[:999], api.OK)

	for _, m := range []int64{0, 1, api.MaxTime - 1, api.MaxTime} {
		if !due.Is(every, utc, m) {
			t.Errorf("P7.1: Is(* * * * *, utc, %d): false", m)
		}
	}
}

// A minute whose local minute is none (1969, 2400) is no occurrence.
func TestNoLocalMinute(t *testing.T) {
	every := parsed(t, "* * * * *")
	for _, r := range []struct {
		zone        api.Zone
		after, want int64
	}{
		{api.Zone{Base: -720}, -1, 720},
		{api.Zone{Base: -1}, -1, 1},
		{api.Zone{Base: 840}, -1, 0},
		{odd[6], 598, 600},
		{odd[6], 608, 609},
		// Clocks go back to 1969 at 610, and come out of it at 720.
		{odd[6], 609, 720},
		// Clocks go on to 1970 at 659.
		{odd[7], -1, 659},
		// Clocks come back from 2400 at 21:40.
		{odd[5], at(2399, 12, 31, 20, 58), at(2399, 12, 31, 20, 59)},
		{odd[5], at(2399, 12, 31, 20, 59), at(2399, 12, 31, 21, 40)},
		{api.Zone{Base: 840}, api.MaxTime - 841, api.MaxTime - 840},
		{api.Zone{Base: -1}, api.MaxTime - 1, api.MaxTime},
	} {
		holdNext(t, every, r.zone, r.after, r.want, api.OK)
		holdBetween(t, every, r.zone, r.after, api.MaxTime, 1, []int64{r.want}, api.OK)
		for m := r.after + 1; m <= r.want; m++ {
			if due.Is(every, r.zone, m) != (m == r.want) {
				t.Errorf("P7.1: Is(* * * * *, %+v, %d): %v", r.zone, m, m != r.want)
			}
		}
	}
	holdNext(t, every, api.Zone{Base: 840}, api.MaxTime-840, 0, api.ErrNone)
	holdNext(t, every, odd[5], api.MaxTime-60, 0, api.ErrNone)
	holdBetween(t, every, api.Zone{Base: 840}, api.MaxTime-840, api.MaxTime, 9, nil, api.OK)
}

// Days that no year has.
func TestNone(t *testing.T) {
	for _, text := range []string{"0 0 30 2 *", "* * 30,31 2 *", "59 23 31 4 *", "0 0 31 2,4,6,9,11 *"} {
		for _, name := range zone.Names() {
			c, z := parsed(t, text), ruled(t, name)
			holdNext(t, c, z, -1, 0, api.ErrNone)
			holdNext(t, c, z, at(2024, 2, 28, 0, 0), 0, api.ErrNone)
			holdBetween(t, c, z, -1, api.MaxTime, mostTold, nil, api.OK)
		}
	}
	// A weekday beside such a day is enough.
	holdNext(t, parsed(t, "0 0 30 2 1"), api.Zone{}, at(2024, 2, 1, 0, 0), at(2024, 2, 5, 0, 0), api.OK)
	// A half hour that a zone's clocks leave out whenever its day is there.
	left := api.Zone{Save: 60, On: api.Rule{Month: 3, Week: 5, At: 60}, Off: api.Rule{Month: 10, Week: 5, At: 60}}
	c := parsed(t, "30 1 31 3 *")
	holdBetween(t, c, left, at(2024, 1, 1, 0, 0), at(2025, 1, 1, 0, 0), 9, nil, api.OK)
	holdNext(t, c, left, at(2024, 1, 1, 0, 0), at(2025, 3, 31, 0, 30), api.OK)
}

// Each error, and of two the one that the chapter names first.
func TestErrors(t *testing.T) {
	every, utc := parsed(t, "* * * * *"), api.Zone{}
	never := parsed(t, "0 0 30 2 *")
	for _, c := range wrongCrons(t) {
		holdNext(t, c, utc, 0, 0, api.ErrArg)
		holdNext(t, c, wrongZones[0], 0, 0, api.ErrArg)
		holdNext(t, c, utc, -2, 0, api.ErrArg)
		holdNext(t, c, wrongZones[0], api.MaxTime+1, 0, api.ErrArg)
		holdBetween(t, c, utc, 0, 9, 9, nil, api.ErrArg)
		holdBetween(t, c, utc, 0, 9, 0, nil, api.ErrArg)
		holdBetween(t, c, wrongZones[0], -2, 9, 1001, nil, api.ErrArg)
		holdBetween(t, c, wrongZones[0], 0, 9, 9, nil, api.ErrArg)
		holdBetween(t, c, utc, 0, api.MaxTime+1, 9, nil, api.ErrArg)
	}
	for _, most := range []int{-1, 1001, -2, 1002, math.MinInt, math.MaxInt, math.MinInt32, 1 << 32, 1<<32 + 5} {
		holdBetween(t, every, utc, 0, 9, most, nil, api.ErrArg)
		holdBetween(t, every, wrongZones[0], 0, 9, most, nil, api.ErrArg)
		holdBetween(t, every, utc, -2, 9, most, nil, api.ErrArg)
		holdBetween(t, every, wrongZones[0], 0, api.MaxTime+1, most, nil, api.ErrArg)
	}
	for _, z := range wrongZones {
		holdNext(t, every, z, 0, 0, api.ErrZone)
		holdNext(t, never, z, 0, 0, api.ErrZone)
		holdNext(t, every, z, -2, 0, api.ErrZone)
		holdBetween(t, every, z, 0, 9, 9, nil, api.ErrZone)
		holdBetween(t, every, z, 9, 0, 0, nil, api.ErrZone)
		holdBetween(t, every, z, -2, 9, 9, nil, api.ErrZone)
		holdBetween(t, every, z, 0, api.MaxTime+1, 9, nil, api.ErrZone)
	}
	for _, m := range noInstants {
		holdNext(t, every, utc, m, 0, api.ErrTime)
		holdNext(t, never, utc, m, 0, api.ErrTime)
		holdBetween(t, every, utc, m, 9, 9, nil, api.ErrTime)
		holdBetween(t, every, utc, 0, m, 9, nil, api.ErrTime)
		holdBetween(t, every, utc, m, m, 0, nil, api.ErrTime)
		holdBetween(t, never, utc, m, m, 0, nil, api.ErrTime)
	}
}

// Is answers false of all that isn't right.
func TestIsOfWrongThings(t *testing.T) {
	every, utc := parsed(t, "* * * * *"), api.Zone{}
	for _, c := range wrongCrons(t) {
		for m := at(2024, 3, 31, 0, 0); m < at(2024, 3, 31, 2, 0); m++ {
			if due.Is(c, utc, m) {
				t.Errorf("P7.1: Is(%+v, utc, %d): true", c, m)
			}
		}
	}
	for _, z := range wrongZones {
		if due.Is(every, z, 1000) {
			t.Errorf("P7.1: Is(* * * * *, %+v, 1000): true", z)
		}
	}
	for _, m := range append([]int64{-1}, noInstants...) {
		for _, z := range []api.Zone{utc, {Base: 840}, {Base: -720}} {
			if due.Is(every, z, m) {
				t.Errorf("P7.1: Is(* * * * *, %+v, %d): true", z, m)
			}
		}
	}
}

// What is answered is the caller's own.
func TestAnswersAreNew(t *testing.T) {
	c, z := parsed(t, "0 * * * *"), ruled(t, "berlin")
	first, _ := due.Between(c, z, 0, api.MaxTime, 5)
	kept := slices.Clone(first)
	again, _ := due.Between(c, z, 0, api.MaxTime, 5)
	for i := range first {
		first[i] = -7
	}
	first = append(first, -8)
	if !slices.Equal(again, kept) {
		t.Errorf("rule 5: an answer changed by another one: %v, want %v", again, kept)
	}
	holdBetween(t, c, z, 0, api.MaxTime, 5, kept, api.OK)
}

// What is answered hangs on the arguments alone, whoever asks at the same time.
func TestManyAskers(t *testing.T) {
	c, z := parsed(t, "30 2 * * *"), ruled(t, "berlin")
	from, to := at(2024, 1, 1, 0, 0), at(2026, 1, 1, 0, 0)
	want, _ := due.Between(c, z, from, to, mostTold)
	var wait sync.WaitGroup
	for i := range 8 {
		wait.Add(1)
		go func() {
			defer wait.Done()
			for j := i; j < len(want); j += 8 {
				holdNext(t, c, z, want[j]-1, want[j], api.OK)
				holdBetween(t, c, z, from, want[j], mostTold, want[:j+1], api.OK)
				if !due.Is(c, z, want[j]) {
					t.Errorf("P7.1: Is at %d: false", want[j])
				}
			}
		}()
	}
	wait.Wait()
}
