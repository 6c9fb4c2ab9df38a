package zone_test

import (
	"fmt"
	"math"
	"math/rand"
	"slices"
	"sync"
	"testing"
	"time"

	"matins/api"
	"matins/zone"
)

const (
	firstYear = 1970
	lastYear  = 2399
	dayLength = 24 * 60
)

// names and rules of the chapter, word by word; names rising.
var chapter = []struct {
	name  string
	rules api.Zone
}{
	{"berlin", api.Zone{Base: 60, Save: 60, On: api.Rule{Month: 3, Week: 5, At: 60}, Off: api.Rule{Month: 10, Week: 5, At: 60}}},
	{"howe", api.Zone{Base: 630, Save: 30, On: api.Rule{Month: 10, Week: 1}, Off: api.Rule{Month: 4, Week: 1}}},
	{"india", api.Zone{Base: 330}},
	{"nepal", api.Zone{Base: 345}},
	{"newyork", api.Zone{Base: -300, Save: 60, On: api.Rule{Month: 3, Week: 2, At: 420}, Off: api.Rule{Month: 11, Week: 1, At: 360}}},
	{"sydney", api.Zone{Base: 600, Save: 60, On: api.Rule{Month: 10, Week: 1}, Off: api.Rule{Month: 4, Week: 1}}},
	{"utc", api.Zone{}},
}

// odd are right zones at the edges of what is right, beside those of the chapter.
var odd = []api.Zone{
	{Base: -720}, {Base: 840}, {Base: -1}, {Base: 1},
	// Save of 0 beside two right rules: no clock is turned.
	{Base: 60, On: api.Rule{Month: 3, Week: 5, At: 60}, Off: api.Rule{Month: 10, Week: 5, At: 60}},
	{Base: -60, On: api.Rule{Month: 10, Week: 5, At: 60}, Off: api.Rule{Month: 3, Week: 5, At: 60}},
	// The least Save, and the greatest, at both ends of Base.
	{Base: 840, Save: 120, On: api.Rule{Month: 1, Week: 1, Day: 4}, Off: api.Rule{Month: 12, Week: 5, Day: 5, At: 1439}},
	{Base: 840, Save: 120, On: api.Rule{Month: 12, Week: 5, Day: 5, At: 1439}, Off: api.Rule{Month: 1, Week: 1, Day: 4}},
	{Base: -720, Save: 1, On: api.Rule{Month: 1, Week: 1, Day: 4}, Off: api.Rule{Month: 12, Week: 5, Day: 5, At: 1439}},
	{Base: -720, Save: 120, On: api.Rule{Month: 12, Week: 5, Day: 5, At: 1439}, Off: api.Rule{Month: 1, Week: 1, Day: 4}},
	// Offsets on either side of 0.
	{Base: -60, Save: 120, On: api.Rule{Month: 1, Week: 1, Day: 4}, Off: api.Rule{Month: 2, Week: 4, Day: 6, At: 720}},
	{Base: 0, Save: 61, On: api.Rule{Month: 12, Week: 5, Day: 0, At: 1439}, Off: api.Rule{Month: 11, Week: 5, Day: 6}},
	// Turns that lie close to each other, over the end of a month and over that of a year.
	{Base: 0, Save: 120, On: api.Rule{Month: 7, Week: 5, Day: 3, At: 1439}, Off: api.Rule{Month: 8, Week: 1, Day: 4}},
	{Base: 0, Save: 120, On: api.Rule{Month: 8, Week: 1, Day: 4}, Off: api.Rule{Month: 7, Week: 5, Day: 3, At: 1439}},
	{Base: 0, Save: 90, On: api.Rule{Month: 1, Week: 1, Day: 0}, Off: api.Rule{Month: 12, Week: 5, Day: 6, At: 1439}},
	{Base: 0, Save: 90, On: api.Rule{Month: 12, Week: 5, Day: 6, At: 1439}, Off: api.Rule{Month: 1, Week: 1, Day: 0}},
	{Base: 100, Save: 45, On: api.Rule{Month: 2, Week: 5, Day: 2, At: 700}, Off: api.Rule{Month: 6, Week: 3, Day: 5, At: 1}},
	{Base: -100, Save: 45, On: api.Rule{Month: 6, Week: 2, Day: 1, At: 700}, Off: api.Rule{Month: 5, Week: 4, Day: 2, At: 1438}},
}

// edges are numbers whose sums would wrap, or whose low bits alone look right.
var edges = []int{math.MinInt, math.MinInt + 1, math.MinInt32, -1 << 40, 1<<32 + 1, math.MaxInt32, math.MaxInt - 1, math.MaxInt}

// noInstants lie outside of the instants on either side.
var noInstants = []int64{-1, -2, api.MaxTime + 1, api.MaxTime + 2, math.MinInt64, math.MinInt64 + 1, math.MinInt64 + 720, math.MaxInt64, math.MaxInt64 - 1, math.MaxInt64 - 960, math.MinInt32, 1 << 32}

func allZones() []api.Zone {
	var all []api.Zone
	for _, r := range chapter {
		all = append(all, r.rules)
	}
	return append(all, odd...)
}

func made(t testing.TB, rules api.Zone) *zone.Zone {
	t.Helper()
	z, e := zone.Make(rules)
	if z == nil || e != api.OK {
		t.Fatalf("P5.1: Make(%+v): %v, %d", rules, z, e)
	}
	return z
}

func named(t testing.TB, name string) *zone.Zone {
	t.Helper()
	z, e := zone.Named(name)
	if z == nil || e != api.OK {
		t.Fatalf("P5.1: Named(%q): %v, %d", name, z, e)
	}
	return z
}

// at is the instant of a minute by the library's calendar; it may lie outside of the instants.
func at(year, month, day, hour, minute int) int64 {
	return time.Date(year, time.Month(month), day, hour, minute, 0, 0, time.UTC).Unix() / 60
}

// civilOf is a minute by the library's calendar.
func civilOf(t int64) api.Civil {
	w := time.Unix(t*60, 0).UTC()
	return api.Civil{Year: w.Year(), Month: int(w.Month()), Day: w.Day(), Hour: w.Hour(), Minute: w.Minute(), Week: int(w.Weekday())}
}

// plainMoment counts a month's days until the rule's one is found.
func plainMoment(r api.Rule, year int) int64 {
	count, found := 0, int64(-1)
	for day := at(year, r.Month, 1, 0, 0); civilOf(day).Month == r.Month; day += dayLength {
		if civilOf(day).Week == r.Day {
			count++
			if count <= r.Week {
				found = day
			}
		}
	}
	return found + int64(r.At)
}

// years holds the rules' instants of each year, so that an oracle that is asked often is quick.
type years struct {
	rules   api.Zone
	on, off [lastYear - firstYear + 1]int64
}

func oracle(rules api.Zone) *years {
	y := &years{rules: rules}
	if rules.Save == 0 {
		return y
	}
	for i := range y.on {
		y.on[i], y.off[i] = plainMoment(rules.On, firstYear+i), plainMoment(rules.Off, firstYear+i)
	}
	return y
}

// offset is the chapter's, word by word.
func (y *years) offset(t int64) int {
	if y.rules.Save == 0 {
		return y.rules.Base
	}
	i := civilOf(t).Year - firstYear
	on, off := y.on[i], y.off[i]
	if on < off {
		if on <= t && t < off {
			return y.rules.Base + y.rules.Save
		}
		return y.rules.Base
	}
	if off <= t && t < on {
		return y.rules.Base
	}
	return y.rules.Base + y.rules.Save
}

// turn goes through all turns for the first one behind t.
func (y *years) turn(t int64) int64 {
	best := int64(api.MaxTime + 1)
	if y.rules.Save == 0 {
		return best
	}
	for i := range y.on {
		for _, m := range []int64{y.on[i], y.off[i]} {
			if m > t && m < best {
				best = m
			}
		}
	}
	return best
}

// instants tries every instant near a local minute.
func (y *years) instants(c api.Civil) []int64 {
	local := at(c.Year, c.Month, c.Day, c.Hour, c.Minute)
	var found []int64
	for t := local - 1000; t <= local+1000; t++ {
		if t >= 0 && t <= api.MaxTime && t+int64(y.offset(t)) == local {
			found = append(found, t)
		}
	}
	return found
}

func wantOffset(t testing.TB, z *zone.Zone, n int64, want int) {
	t.Helper()
	if got, e := z.Offset(n); got != want || e != api.OK {
		t.Errorf("P5.2: %+v: Offset(%d): %d, %d; want %d", z.Rules(), n, got, e, want)
	}
}

func wantTurn(t testing.TB, z *zone.Zone, n, want int64) {
	t.Helper()
	if got, e := z.Turn(n); got != want || e != api.OK {
		t.Errorf("P5.2: %+v: Turn(%d): %d, %d; want %d", z.Rules(), n, got, e, want)
	}
}

// wantLocal holds Local against the sum of an instant and its offset.
func wantLocal(t testing.TB, z *zone.Zone, n int64, offset int) {
	t.Helper()
	sum := n + int64(offset)
	want, wrong := api.Civil{}, api.ErrTime
	if sum >= 0 && sum <= api.MaxTime {
		want, wrong = civilOf(sum), api.OK
	}
	if got, e := z.Local(n); got != want || e != wrong {
		t.Errorf("P5.2: %+v: Local(%d): %+v, %d; want %+v, %d", z.Rules(), n, got, e, want, wrong)
	}
}

func wantInstants(t testing.TB, z *zone.Zone, c api.Civil, want ...int64) {
	t.Helper()
	if got := z.Instants(c); !slices.Equal(got, want) {
		t.Errorf("P5.2: %+v: Instants(%+v): %v; want %v", z.Rules(), c, got, want)
	}
}

func wantNone(t testing.TB, rules api.Zone) {
	t.Helper()
	if z, e := zone.Make(rules); z != nil || e != api.ErrZone {
		t.Errorf("P5.1: Make(%+v): %v, %d; want ErrZone", rules, z, e)
	}
}

func TestExamples(t *testing.T) {
	berlin := named(t, "berlin")
	wantOffset(t, berlin, at(2024, 3, 31, 0, 59), 60)
	wantOffset(t, berlin, at(2024, 3, 31, 1, 0), 120)
	wantInstants(t, berlin, api.Civil{Year: 2024, Month: 3, Day: 31, Hour: 2, Minute: 30})
	wantInstants(t, berlin, api.Civil{Year: 2024, Month: 10, Day: 27, Hour: 2, Minute: 30}, at(2024, 10, 27, 0, 30), at(2024, 10, 27, 1, 30))
	if c, e := berlin.Local(28530779); c != (api.Civil{Year: 2024, Month: 3, Day: 31, Hour: 1, Minute: 59}) || e != api.OK {
		t.Errorf("P5.2: Local(28530779): %+v, %d", c, e)
	}
	sydney := named(t, "sydney")
	wantOffset(t, sydney, at(2024, 1, 1, 0, 0), 660)
	wantOffset(t, sydney, at(2024, 7, 1, 0, 0), 600)
	utc := named(t, "utc")
	for _, n := range []int64{0, 1, 28530779, api.MaxTime} {
		wantLocal(t, utc, n, 0)
	}
	if c, e := named(t, "newyork").Local(0); c != (api.Civil{}) || e != api.ErrTime {
		t.Errorf("P5.2: newyork: Local(0): %+v, %d; want ErrTime", c, e)
	}
	wantNone(t, api.Zone{Base: 841})
	wantNone(t, api.Zone{Save: 60})
	wantNone(t, api.Zone{On: api.Rule{Month: 1, Week: 1}})
}

// fields of a zone, each with the least and the greatest that it may be; those of rules stand beside a Save.
func fields() []struct {
	name        string
	least, most int
	set         func(z *api.Zone, n int)
} {
	return []struct {
		name        string
		least, most int
		set         func(z *api.Zone, n int)
	}{
		{"Base", -720, 840, func(z *api.Zone, n int) { z.Base = n }},
		{"Save", 0, 120, func(z *api.Zone, n int) { z.Save = n }},
		{"On.Month", 1, 12, func(z *api.Zone, n int) { z.On.Month = n }},
		{"On.Week", 1, 5, func(z *api.Zone, n int) { z.On.Week = n }},
		{"On.Day", 0, 6, func(z *api.Zone, n int) { z.On.Day = n }},
		{"On.At", 0, 1439, func(z *api.Zone, n int) { z.On.At = n }},
		{"Off.Month", 1, 12, func(z *api.Zone, n int) { z.Off.Month = n }},
		{"Off.Week", 1, 5, func(z *api.Zone, n int) { z.Off.Week = n }},
		{"Off.Day", 0, 6, func(z *api.Zone, n int) { z.Off.Day = n }},
		{"Off.At", 0, 1439, func(z *api.Zone, n int) { z.Off.At = n }},
	}
}

func TestMakeEdges(t *testing.T) {
	for _, save := range []int{0, 60} {
		base := api.Zone{Base: 60, Save: save, On: api.Rule{Month: 4, Week: 2, Day: 3, At: 90}, Off: api.Rule{Month: 9, Week: 3, Day: 2, At: 30}}
		for _, f := range fields() {
			for n := f.least; n <= f.most; n++ {
				z := base
				f.set(&z, n)
				if z.On.Month == z.Off.Month {
					wantNone(t, z)
				} else if got := made(t, z).Rules(); got != z {
					t.Errorf("P5.1: %s %d: Rules: %+v; want %+v", f.name, n, got, z)
				}
			}
			for _, n := range append([]int{f.least - 1, f.most + 1}, edges...) {
				z := base
				f.set(&z, n)
				wantNone(t, z)
			}
		}
	}
}

func TestMakeWithoutRules(t *testing.T) {
	for _, f := range fields() {
		for _, n := range append([]int{f.least - 1, f.least, f.most, f.most + 1}, edges...) {
			z := api.Zone{}
			f.set(&z, n)
			// But for Base, whatever isn't 0 makes what isn't right of an empty zone.
			if z != (api.Zone{Base: z.Base}) || z.Base < -720 || z.Base > 840 {
				wantNone(t, z)
			} else if got := made(t, z).Rules(); got != z {
				t.Errorf("P5.1: Rules: %+v; want %+v", got, z)
			}
		}
	}
}

func TestMakeRulesTogether(t *testing.T) {
	one, other := api.Rule{Month: 3, Week: 1}, api.Rule{Month: 4, Week: 1}
	for _, save := range []int{0, 1, 120} {
		for _, z := range []api.Zone{
			{On: one}, {Off: one}, // beside an empty one
			{On: one, Off: one}, {On: one, Off: api.Rule{Month: 3, Week: 2, Day: 1, At: 1}}, // of one Month
			{On: one, Off: api.Rule{Week: 1}}, {On: one, Off: api.Rule{At: 1}}, // beside one that is neither right nor empty
			{On: api.Rule{Day: 1}, Off: other}, {On: api.Rule{Month: 5}, Off: other},
		} {
			z.Save = save
			wantNone(t, z)
		}
		z := api.Zone{Save: save, On: one, Off: other}
		if got := made(t, z).Rules(); got != z {
			t.Errorf("P5.1: Rules: %+v; want %+v", got, z)
		}
		z = api.Zone{Save: save, On: other, Off: one}
		if got := made(t, z).Rules(); got != z {
			t.Errorf("P5.1: Rules: %+v; want %+v", got, z)
		}
	}
	wantNone(t, api.Zone{Save: 1})
	wantNone(t, api.Zone{Save: 120})
}

func TestNamed(t *testing.T) {
	for _, r := range chapter {
		if got := named(t, r.name).Rules(); got != r.rules {
			t.Errorf("P5.1: %s: Rules: %+v; want %+v", r.name, got, r.rules)
		}
		for _, no := range []string{r.name + " ", " " + r.name, r.name + "\x00", r.name + r.name, r.name[1:], r.name[:len(r.name)-1], string(r.name[0]-32) + r.name[1:]} {
			if z, e := zone.Named(no); z != nil || e != api.ErrZone {
				t.Errorf("P5.1: Named(%q): %v, %d; want ErrZone", no, z, e)
			}
		}
	}
	for _, no := range []string{"", " ", "-", "mars", "UTC", "new york", "Europe/Berlin", "\xff", "utc\n", "berlin,utc"} {
		if z, e := zone.Named(no); z != nil || e != api.ErrZone {
			t.Errorf("P5.1: Named(%q): %v, %d; want ErrZone", no, z, e)
		}
	}
}

func TestNames(t *testing.T) {
	var want []string
	for _, r := range chapter {
		want = append(want, r.name)
	}
	first, second := zone.Names(), zone.Names()
	if !slices.Equal(first, want) || !slices.Equal(second, want) || !slices.IsSorted(want) {
		t.Fatalf("P5.1: Names: %v, %v; want %v", first, second, want)
	}
	for i := range first {
		first[i] = "mars"
	}
	_ = append(first[:0], "venus")
	if third := zone.Names(); !slices.Equal(second, want) || !slices.Equal(third, want) {
		t.Errorf("P5.1: Names shares memory: %v, %v", second, third)
	}
	if z, e := zone.Named("berlin"); z == nil || e != api.OK {
		t.Errorf("P5.1: Named behind changed Names: %d", e)
	}
}

// TestRules: what Rules gave is a value; changing it, or what the zone was made of, changes no zone.
func TestRules(t *testing.T) {
	rules := chapter[0].rules
	z := made(t, rules)
	rules.Base, rules.On.Month = 0, 7
	got := z.Rules()
	got.Save, got.Off.At = 0, 0
	if z.Rules() != chapter[0].rules {
		t.Errorf("P5.1: Rules: %+v", z.Rules())
	}
	wantOffset(t, z, at(2024, 3, 31, 1, 0), 120)
	if z.Rules() != chapter[0].rules {
		t.Errorf("P5.1: Rules behind Offset: %+v", z.Rules())
	}
}

// TestKnownTurns: turns that stand in the almanacs.
func TestKnownTurns(t *testing.T) {
	for _, r := range []struct {
		name          string
		turn          int64
		ahead, behind int
	}{
		{"berlin", at(2024, 3, 31, 1, 0), 60, 120}, {"berlin", at(2024, 10, 27, 1, 0), 120, 60}, {"berlin", at(2026, 3, 29, 1, 0), 60, 120}, {"berlin", at(2023, 10, 29, 1, 0), 120, 60},
		{"newyork", at(2024, 3, 10, 7, 0), -300, -240}, {"newyork", at(2024, 11, 3, 6, 0), -240, -300}, {"newyork", at(2026, 3, 8, 7, 0), -300, -240}, {"newyork", at(2026, 11, 1, 6, 0), -240, -300},
		{"sydney", at(2024, 4, 7, 0, 0), 660, 600}, {"sydney", at(2024, 10, 6, 0, 0), 600, 660},
		{"howe", at(2024, 4, 7, 0, 0), 660, 630}, {"howe", at(2024, 10, 6, 0, 0), 630, 660},
		{"berlin", at(1970, 3, 29, 1, 0), 60, 120}, {"berlin", at(1970, 10, 25, 1, 0), 120, 60}, {"berlin", at(2399, 3, 28, 1, 0), 60, 120}, {"berlin", at(2399, 10, 31, 1, 0), 120, 60},
		{"sydney", at(1970, 4, 5, 0, 0), 660, 600}, {"sydney", at(1970, 10, 4, 0, 0), 600, 660}, {"sydney", at(2399, 4, 4, 0, 0), 660, 600}, {"sydney", at(2399, 10, 3, 0, 0), 600, 660},
	} {
		z := named(t, r.name)
		wantOffset(t, z, r.turn-1, r.ahead)
		wantOffset(t, z, r.turn, r.behind)
		wantOffset(t, z, r.turn+1, r.behind)
		wantTurn(t, z, r.turn-1, r.turn)
		wantTurn(t, z, r.turn-2, r.turn)
		if next, e := z.Turn(r.turn); next <= r.turn || e != api.OK {
			t.Errorf("P5.2: %s: Turn(%d): %d, %d", r.name, r.turn, next, e)
		}
	}
}

// TestEveryTurn: of every year, right ahead of, at and right behind each turn; the ends of the year too.
func TestEveryTurn(t *testing.T) {
	for _, rules := range allZones() {
		z, y := made(t, rules), oracle(rules)
		last := int64(api.MaxTime + 1) // what Turn answers at the instant that is looked at; the walk goes from the back
		for year := lastYear; year >= firstYear; year-- {
			marks := []int64{at(year, 1, 1, 0, 0), at(year+1, 1, 1, 0, 0)}
			if rules.Save > 0 {
				marks = append(marks, plainMoment(rules.On, year), plainMoment(rules.Off, year))
			}
			var around []int64
			for _, m := range marks {
				around = append(around, m-2, m-1, m, m+1, m+2)
			}
			slices.Sort(around)
			slices.Reverse(around)
			for _, n := range around {
				if n < at(year, 1, 1, 0, 0) || n >= at(year+1, 1, 1, 0, 0) {
					continue
				}
				want := y.offset(n)
				wantOffset(t, z, n, want)
				wantLocal(t, z, n, want)
				if n < api.MaxTime && y.offset(n+1) != want {
					last = n + 1
				}
				wantTurn(t, z, n, last)
			}
			if t.Failed() {
				return
			}
		}
	}
}

// wantMinutes holds Offset, Turn and Local against the chapter's words minute by minute, from the back.
func wantMinutes(t *testing.T, z *zone.Zone, y *years, first, last int64) {
	t.Helper()
	first, last = max(first, 0), min(last, api.MaxTime)
	turn, later := y.turn(last), y.offset(last)
	for n := last; n >= first; n-- {
		want := y.offset(n)
		if want != later {
			turn, later = n+1, want
		}
		wantOffset(t, z, n, want)
		wantTurn(t, z, n, turn)
		wantLocal(t, z, n, want)
		if t.Failed() {
			return
		}
	}
}

// TestMinutes: minute by minute around the turns and the ends of years, the first and the last one among them; and a whole year, in both orders.
func TestMinutes(t *testing.T) {
	for _, rules := range allZones() {
		z, y := made(t, rules), oracle(rules)
		for _, year := range []int{1970, 2024, 2399} {
			marks := []int64{at(year, 1, 1, 0, 0), at(year+1, 1, 1, 0, 0)}
			if rules.Save > 0 {
				marks = append(marks, plainMoment(rules.On, year), plainMoment(rules.Off, year))
			}
			for _, m := range marks {
				wantMinutes(t, z, y, m-dayLength, m+dayLength)
			}
		}
	}
	for _, name := range []string{"berlin", "sydney"} {
		z := named(t, name)
		wantMinutes(t, z, oracle(z.Rules()), at(2024, 1, 1, 0, 0), at(2024, 12, 31, 23, 59))
	}
}

// TestTurnByTurn: Turn asked of what it answered goes through all turns there are, two a year, and ends.
func TestTurnByTurn(t *testing.T) {
	for _, rules := range allZones() {
		z := made(t, rules)
		var want []int64
		for year := firstYear; year <= lastYear && rules.Save > 0; year++ {
			want = append(want, plainMoment(rules.On, year), plainMoment(rules.Off, year))
		}
		slices.Sort(want)
		if len(want) > 0 && want[0] == 0 {
			want = want[1:] // no instant lies ahead of the first one
		}
		var got []int64
		for n := int64(0); len(got) <= len(want); {
			next, e := z.Turn(n)
			if e != api.OK || next <= n {
				t.Fatalf("P5.2: %+v: Turn(%d): %d, %d", rules, n, next, e)
			}
			if next > api.MaxTime {
				break
			}
			got = append(got, next)
			n = next
		}
		if !slices.Equal(got, want) {
			t.Errorf("P5.2: %+v: %d turns, want %d, or other ones", rules, len(got), len(want))
		}
	}
}

func TestNoTurns(t *testing.T) {
	for _, rules := range allZones() {
		if rules.Save > 0 {
			continue
		}
		z := made(t, rules)
		for _, n := range []int64{0, 1, at(2024, 3, 31, 0, 59), at(2024, 3, 31, 1, 0), at(2024, 7, 1, 0, 0), at(2024, 10, 27, 1, 0), api.MaxTime - 1, api.MaxTime} {
			wantOffset(t, z, n, rules.Base)
			wantTurn(t, z, n, api.MaxTime+1)
			wantLocal(t, z, n, rules.Base)
			if sum := n + int64(rules.Base); sum >= 0 && sum <= api.MaxTime {
				wantInstants(t, z, civilOf(sum), n)
			}
		}
	}
}

// TestOutside: what is no instant is refused, and the first and the last one aren't.
func TestOutside(t *testing.T) {
	for _, rules := range allZones() {
		z, y := made(t, rules), oracle(rules)
		for _, n := range noInstants {
			if got, e := z.Offset(n); got != 0 || e != api.ErrTime {
				t.Errorf("P5.2: Offset(%d): %d, %d; want ErrTime", n, got, e)
			}
			if got, e := z.Turn(n); got != 0 || e != api.ErrTime {
				t.Errorf("P5.2: Turn(%d): %d, %d; want ErrTime", n, got, e)
			}
			if got, e := z.Local(n); got != (api.Civil{}) || e != api.ErrTime {
				t.Errorf("P5.2: Local(%d): %+v, %d; want ErrTime", n, got, e)
			}
		}
		for _, n := range []int64{0, 1, api.MaxTime - 1, api.MaxTime} {
			wantOffset(t, z, n, y.offset(n))
			wantTurn(t, z, n, y.turn(n))
			wantLocal(t, z, n, y.offset(n))
		}
	}
}

// TestEnds: Local and Instants over the two days at each end; there a sum may be no instant, and a local minute may have none.
func TestEnds(t *testing.T) {
	for _, rules := range allZones() {
		z, y := made(t, rules), oracle(rules)
		shown := map[int64][]int64{}
		look := func(n int64) {
			wantLocal(t, z, n, y.offset(n))
			sum := n + int64(y.offset(n))
			shown[sum] = append(shown[sum], n)
		}
		for n := int64(0); n < 3*dayLength; n++ {
			look(n)
		}
		for n := int64(api.MaxTime - 3*dayLength); n <= api.MaxTime; n++ {
			look(n)
		}
		for n := int64(0); n < dayLength; n++ {
			wantInstants(t, z, civilOf(n), shown[n]...)
			wantInstants(t, z, civilOf(api.MaxTime-n), shown[api.MaxTime-n]...)
		}
		// What lies outside is shown at an instant, but is no minute by the calendar.
		for _, n := range []int64{-1, -240, -300, -720, api.MaxTime + 1, api.MaxTime + 60, api.MaxTime + 960} {
			wantInstants(t, z, civilOf(n))
		}
		if t.Failed() {
			return
		}
	}
}

// TestLocalEnds: the first and the last instant that has a local minute.
func TestLocalEnds(t *testing.T) {
	for _, base := range []int{-720, -300, -1, 0, 1, 345, 840} {
		z := made(t, api.Zone{Base: base})
		first, last := int64(max(0, -base)), int64(api.MaxTime-max(0, base))
		for _, n := range []int64{first, last} {
			wantLocal(t, z, n, base)
			wantInstants(t, z, civilOf(n+int64(base)), n)
		}
		for _, n := range []int64{first - 1, last + 1} {
			if c, e := z.Local(n); c != (api.Civil{}) || e != api.ErrTime {
				t.Errorf("P5.2: Base %d: Local(%d): %+v, %d; want ErrTime", base, n, c, e)
			}
		}
	}
}

// TestInstantsAroundTurns: each local minute near a turn has none, one or two instants, whatever Week says.
func TestInstantsAroundTurns(t *testing.T) {
	chance := rand.New(rand.NewSource(5))
	for _, rules := range allZones() {
		if rules.Save == 0 {
			continue
		}
		z, y := made(t, rules), oracle(rules)
		var counts [3]int
		for _, year := range []int{1970, 1971, 2000, 2024, 2100, 2398, 2399} {
			for _, turn := range []int64{plainMoment(rules.On, year), plainMoment(rules.Off, year)} {
				shown := map[int64][]int64{}
				for n := turn - 3*dayLength; n <= turn+3*dayLength; n++ {
					if n >= 0 && n <= api.MaxTime {
						shown[n+int64(y.offset(n))] = append(shown[n+int64(y.offset(n))], n)
					}
				}
				for n := turn - dayLength; n <= turn+dayLength; n++ {
					if n < 0 || n > api.MaxTime {
						continue
					}
					c := civilOf(n)
					c.Week = chance.Intn(20) - 6
					wantInstants(t, z, c, shown[n]...)
					counts[len(shown[n])]++
				}
			}
		}
		if counts[0] == 0 || counts[1] == 0 || counts[2] == 0 {
			t.Errorf("the test looks at no minute of a kind: %v", counts)
		}
		if t.Failed() {
			return
		}
	}
}

// TestGapsAndOverlaps: their first and last minutes, and those right outside, in zones of both orders.
func TestGapsAndOverlaps(t *testing.T) {
	for _, name := range []string{"berlin", "newyork", "sydney", "howe"} {
		z := named(t, name)
		rules := z.Rules()
		for _, year := range []int{1970, 2024, 2399} {
			on, off := plainMoment(rules.On, year), plainMoment(rules.Off, year)
			base, save := int64(rules.Base), int64(rules.Save)
			gap := on + base // the first local minute that is skipped
			wantInstants(t, z, civilOf(gap-1), on-1)
			wantInstants(t, z, civilOf(gap))
			wantInstants(t, z, civilOf(gap+save-1))
			wantInstants(t, z, civilOf(gap+save), on)
			twice := off + base // the first local minute that comes twice
			wantInstants(t, z, civilOf(twice-1), off-save-1)
			wantInstants(t, z, civilOf(twice), off-save, off)
			wantInstants(t, z, civilOf(twice+save-1), off-1, off+save-1)
			wantInstants(t, z, civilOf(twice+save), off+save)
		}
	}
}

func TestInstantsAnyWeek(t *testing.T) {
	z := named(t, "berlin")
	for _, week := range append([]int{-1, 0, 1, 2, 3, 4, 5, 6, 7, 8}, edges...) {
		wantInstants(t, z, api.Civil{Year: 2024, Month: 3, Day: 31, Hour: 2, Minute: 30, Week: week})
		wantInstants(t, z, api.Civil{Year: 2024, Month: 10, Day: 27, Hour: 2, Minute: 30, Week: week}, at(2024, 10, 27, 0, 30), at(2024, 10, 27, 1, 30))
		wantInstants(t, z, api.Civil{Year: 2024, Month: 7, Day: 1, Hour: 2, Minute: 30, Week: week}, at(2024, 7, 1, 0, 30))
	}
}

// TestInstantsOfNoMinute: what is no minute by the calendar has none, in whatever zone.
func TestInstantsOfNoMinute(t *testing.T) {
	right := api.Civil{Year: 2024, Month: 2, Day: 29, Hour: 12, Minute: 30, Week: 4}
	wrong := []api.Civil{{}, {Year: 2100, Month: 2, Day: 29}, {Year: 2023, Month: 2, Day: 29}, {Year: 2024, Month: 4, Day: 31}, {Year: 2024, Month: 1, Day: 32}}
	for _, p := range []struct {
		set func(c *api.Civil, n int)
		bad []int
	}{
		{func(c *api.Civil, n int) { c.Year = n }, []int{1969, 2400, 0, -2024}},
		{func(c *api.Civil, n int) { c.Month = n }, []int{0, 13, -1}},
		{func(c *api.Civil, n int) { c.Day = n }, []int{0, 30, -1}},
		{func(c *api.Civil, n int) { c.Hour = n }, []int{-1, 24}},
		{func(c *api.Civil, n int) { c.Minute = n }, []int{-1, 60}},
	} {
		for _, n := range append(p.bad, edges...) {
			c := right
			p.set(&c, n)
			wrong = append(wrong, c)
		}
	}
	for _, rules := range allZones() {
		z := made(t, rules)
		for _, c := range wrong {
			if got := z.Instants(c); len(got) != 0 {
				t.Errorf("P5.2: %+v: Instants(%+v): %v; want none", rules, c, got)
			}
		}
		if got := z.Instants(right); len(got) != 1 {
			t.Errorf("P5.2: %+v: Instants(%+v): %v; want one", rules, right, got)
		}
	}
}

// TestThereAndBack: Instants and Local of one another, at instants by chance.
func TestThereAndBack(t *testing.T) {
	chance := rand.New(rand.NewSource(14))
	for _, rules := range allZones() {
		z, y := made(t, rules), oracle(rules)
		for range 2000 {
			n := chance.Int63n(api.MaxTime + 1)
			if rules.Save > 0 && chance.Intn(2) == 0 {
				// near a turn
				n = min(max(y.on[chance.Intn(len(y.on))]+chance.Int63n(400)-200, 0), api.MaxTime)
				if chance.Intn(2) == 0 {
					n = min(max(y.off[chance.Intn(len(y.off))]+chance.Int63n(400)-200, 0), api.MaxTime)
				}
			}
			c, e := z.Local(n)
			if e != api.OK {
				continue
			}
			l := z.Instants(c)
			if !slices.Contains(l, n) || !slices.IsSorted(l) {
				t.Fatalf("P5.2: %+v: Instants(Local(%d)): %v", rules, n, l)
			}
			for _, m := range l {
				if back, e := z.Local(m); back != c || e != api.OK {
					t.Fatalf("P5.2: %+v: Local(%d): %+v, %d; want %+v", rules, m, back, e, c)
				}
			}
			if chance.Intn(50) == 0 && !slices.Equal(l, y.instants(c)) {
				t.Fatalf("P5.2: %+v: Instants(%+v): %v; want %v", rules, c, l, y.instants(c))
			}
		}
	}
}

// TestByChance: right zones made by chance, held against the chapter's words.
func TestByChance(t *testing.T) {
	chance := rand.New(rand.NewSource(51))
	rule := func() api.Rule {
		return api.Rule{Month: 1 + chance.Intn(12), Week: 1 + chance.Intn(5), Day: chance.Intn(7), At: chance.Intn(1440)}
	}
	for range 60 {
		rules := api.Zone{Base: chance.Intn(1561) - 720, Save: chance.Intn(121), On: rule(), Off: rule()}
		if rules.On.Month == rules.Off.Month {
			wantNone(t, rules)
			continue
		}
		z, y := made(t, rules), oracle(rules)
		for range 300 {
			n := chance.Int63n(api.MaxTime + 1)
			wantOffset(t, z, n, y.offset(n))
			wantLocal(t, z, n, y.offset(n))
			wantTurn(t, z, n, y.turn(n))
		}
		for range 5 {
			n := y.turn(chance.Int63n(api.MaxTime))
			if n > api.MaxTime {
				continue
			}
			c := civilOf(min(max(n+chance.Int63n(2000)-1000, 0), api.MaxTime))
			wantInstants(t, z, c, y.instants(c)...)
		}
	}
}

func TestNil(t *testing.T) {
	var z *zone.Zone
	if got := z.Rules(); got != (api.Zone{}) {
		t.Errorf("P5.2: Rules of nil: %+v", got)
	}
	for _, n := range append([]int64{0, 1, 28530779, api.MaxTime}, noInstants...) {
		if got, e := z.Offset(n); got != 0 || e != api.ErrZone {
			t.Errorf("P5.2: Offset(%d) of nil: %d, %d; want ErrZone", n, got, e)
		}
		if got, e := z.Turn(n); got != 0 || e != api.ErrZone {
			t.Errorf("P5.2: Turn(%d) of nil: %d, %d; want ErrZone", n, got, e)
		}
		if got, e := z.Local(n); got != (api.Civil{}) || e != api.ErrZone {
			t.Errorf("P5.2: Local(%d) of nil: %+v, %d; want ErrZone", n, got, e)
		}
	}
	for _, c := range []api.Civil{{}, {Year: 2024, Month: 7, Day: 1}, {Year: 1970, Month: 1, Day: 1}, {Year: math.MinInt}} {
		if got := z.Instants(c); len(got) != 0 {
			t.Errorf("P5.2: Instants(%+v) of nil: %v; want none", c, got)
		}
	}
}

// TestNewMemory: what Instants answered is the asker's own.
func TestNewMemory(t *testing.T) {
	z := named(t, "berlin")
	c := api.Civil{Year: 2024, Month: 10, Day: 27, Hour: 2, Minute: 30}
	first, second := z.Instants(c), z.Instants(c)
	want := slices.Clone(first)
	first[0], first[1] = 1, 2
	_ = append(first[:0], 3)
	if !slices.Equal(second, want) || !slices.Equal(z.Instants(c), want) {
		t.Errorf("P5.2: Instants shares memory: %v; want %v", second, want)
	}
	wantTurn(t, z, at(2024, 10, 27, 0, 0), at(2024, 10, 27, 1, 0))
}

// asks are what may be asked of a zone, each told as a text.
func asks() []func(z *zone.Zone) string {
	var all []func(z *zone.Zone) string
	for _, n := range []int64{-1, 0, at(1970, 7, 1, 0, 0), at(2024, 3, 31, 0, 59), at(2024, 3, 31, 1, 0), at(2399, 11, 30, 0, 0), api.MaxTime, api.MaxTime + 1} {
		all = append(all,
			func(z *zone.Zone) string { return fmt.Sprint(z.Offset(n)) },
			func(z *zone.Zone) string { return fmt.Sprint(z.Turn(n)) },
			func(z *zone.Zone) string { return fmt.Sprint(z.Local(n)) },
			func(z *zone.Zone) string { return fmt.Sprint(z.Instants(civilOf(n))) })
	}
	return append(all, func(z *zone.Zone) string { return fmt.Sprint(z.Rules()) })
}

// TestAnyOrder: whichever call comes first on an object, and whatever was asked of others, the answers are the same.
func TestAnyOrder(t *testing.T) {
	all := asks()
	chance := rand.New(rand.NewSource(7))
	for _, rules := range allZones() {
		var want []string
		for _, ask := range all {
			want = append(want, ask(made(t, rules))) // each of a new object
		}
		for range 10 {
			z := made(t, rules)
			for _, i := range append(chance.Perm(len(all)), chance.Perm(len(all))...) {
				if got := all[i](z); got != want[i] {
					t.Errorf("P5.2: %+v: ask %d: %s; want %s", rules, i, got, want[i])
				}
			}
		}
	}
}

// TestManyAtOnce: goroutines that ask one new object at one time are answered as one that is alone.
func TestManyAtOnce(t *testing.T) {
	all := asks()
	for _, rules := range allZones() {
		alone := made(t, rules)
		var want []string
		for _, ask := range all {
			want = append(want, ask(alone))
		}
		for round := range 5 {
			z := made(t, rules)
			got := make([][]string, 8)
			var start, done sync.WaitGroup
			start.Add(1)
			for i := range got {
				done.Add(1)
				go func() {
					defer done.Done()
					start.Wait()
					got[i] = make([]string, len(all))
					for k := range all {
						j := (k + i*5 + round) % len(all)
						got[i][j] = all[j](z)
					}
				}()
			}
			start.Done()
			done.Wait()
			for i := range got {
				if !slices.Equal(got[i], want) {
					t.Errorf("P5.2: %+v: goroutine %d: %v; want %v", rules, i, got[i], want)
				}
			}
		}
	}
}
