package group_test

import (
	"math"
	"slices"
	"testing"

	"matins/api"
	"matins/group"
)

func wantNew(t *testing.T, conf []int) {
	t.Helper()
	if isConf(conf) {
		x := newDesk(t, conf...)
		for _, id := range conf {
			x.wantView(id, api.View{Up: true})
		}
		x.wantAgreed()
		x.wantLeaders()
		if x.was.broken || len(x.was.flight) != 0 {
			t.Errorf("P22.1: New(%d): %s", conf, x.was.told())
		}
		return
	}
	lent := withRoom(conf, -7)
	if g, err := group.New(lent); g != nil || err != api.ErrArg {
		t.Errorf("P22.1: New(%d): %v, %d", conf, g, err)
	}
	if !slices.Equal(whole(lent), whole(withRoom(conf, -7))) {
		t.Errorf("rule 5: New(%d) changes what it is lent: %d", conf, whole(lent))
	}
}

func TestNew(t *testing.T) {
	for _, conf := range [][]int{
		{1}, {7}, {math.MaxInt}, {1, 2}, {1, math.MaxInt}, {3, 90, 91}, {1, 2, 3, 4}, {1, 2, 3, 4, 5}, {2, 3, 5, 7, 11, 13}, {1, 2, 3, 4, 5, 6, 7}, {1, 2, 3, 4, 5, 6, 800},
	} {
		if !isConf(conf) {
			t.Errorf("%d", conf)
		}
		wantNew(t, conf)
	}
	for _, conf := range [][]int{
		nil, {}, {0}, {-1}, {math.MinInt}, {1, 1}, {2, 1}, {0, 1}, {-1, 1}, {1, 0}, {1, 3, 2}, {1, 2, 2}, {1, 2, 3, 4, 5, 6, 6}, {1, 2, 3, 4, 5, 7, 6}, {0, 1, 2, 3, 4, 5, 6},
		{1, 2, 3, 4, 5, 6, 7, 8}, {1, 2, 3, 4, 5, 6, 7, 0}, slices.Repeat([]int{1}, 1000),
	} {
		if isConf(conf) {
			t.Errorf("%d", conf)
		}
		wantNew(t, conf)
	}
	numbers := []int{-1, 0, 1, 2, 3, 4}
	for _, a := range numbers {
		wantNew(t, []int{a})
		for _, b := range numbers {
			wantNew(t, []int{a, b})
			for _, c := range numbers {
				wantNew(t, []int{a, b, c})
			}
		}
	}
}

func TestNilGroup(t *testing.T) {
	var g *group.Group
	for kind := -2; kind <= 20; kind++ {
		for _, a := range []api.Act{{Kind: kind}, {Kind: kind, Node: 1, Id: 1, Data: "x", Fail: true}} {
			if err := g.Do(a); err != api.ErrArg {
				t.Errorf("P22.1: Do(%+v): %d", a, err)
			}
		}
	}
	for id := -1; id <= 2; id++ {
		if v, err := g.View(id); v != (api.View{}) || err != api.ErrArg {
			t.Errorf("P22.1: View(%d): %+v, %d", id, v, err)
		}
	}
	if l := g.Agreed(); len(l) != 0 {
		t.Errorf("P22.1: Agreed: %v", l)
	}
	if l := g.Leaders(); len(l) != 0 {
		t.Errorf("P22.1: Leaders: %v", l)
	}
	if g.Broken() {
		t.Errorf("P22.1: Broken")
	}
	if l := g.Flight(); len(l) != 0 {
		t.Errorf("P22.1: Flight: %v", l)
	}
}

// Two groups of one list are two.
func TestTwoGroups(t *testing.T) {
	a, b := newDesk(t, 1, 2), newDesk(t, 1, 2)
	a.tick(1, 10)
	a.deliver()
	a.crash(2, 0, 0)
	b.was = b.look("the other's acts")
	b.wantView(1, api.View{Up: true})
	b.wantView(2, api.View{Up: true})
	b.tick(2, 10)
	b.deliver()
	a.was = a.look("the other's acts")
	a.wantLeaders(led(1, 1))
	b.wantLeaders(led(2, 1))
}
