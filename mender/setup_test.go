package mender

import (
	"math"
	"testing"

	"mender/api"
)

// usual is the configuration of example 3, with numbers that tests count on.
var usual = api.Config{Ring: 4, Window: 8, Delay: 10, Rate: 5, Burst: 100, Retry: 20, Tries: 2}

func made(t testing.TB, c api.Config) *Mender {
	t.Helper()
	m, e := New(c)
	if m == nil || e != api.OK {
		t.Fatalf("New(%+v) = %v, %d", c, m, e)
	}
	return m
}

func addSenders(t testing.TB, m *Mender, sources ...int) {
	t.Helper()
	for _, source := range sources {
		if e := m.AddSender(source); e != api.OK {
			t.Fatalf("AddSender(%d) = %d", source, e)
		}
	}
}

func addWant(t testing.TB, m *Mender, of int, w api.Want) int {
	t.Helper()
	id, e := m.AddWant(of, w)
	if e != api.OK {
		t.Fatalf("AddWant(%d, %+v) = %d, %d", of, w, id, e)
	}
	return id
}

// pair is a want of two sources, and noughts.
func pair(source, second int) api.Want {
	return api.Want{Source: source, Second: second}
}

func TestP5Configurations(t *testing.T) {
	for _, c := range []struct {
		name        string
		field       func(c *api.Config) *int
		least, most int
	}{
		{"Ring", func(c *api.Config) *int { return &c.Ring }, 1, 64},
		{"Window", func(c *api.Config) *int { return &c.Window }, 1, 200},
		{"Delay", func(c *api.Config) *int { return &c.Delay }, 0, 1000000},
		{"Rate", func(c *api.Config) *int { return &c.Rate }, 0, 100000},
		{"Burst", func(c *api.Config) *int { return &c.Burst }, 0, 1000000},
		{"Retry", func(c *api.Config) *int { return &c.Retry }, 1, 1000000},
		{"Tries", func(c *api.Config) *int { return &c.Tries }, 0, 10},
	} {
		for _, n := range []int{c.least, c.least + 1, c.most - 1, c.most} {
			config := usual
			*c.field(&config) = n
			m := made(t, config)
			if got, want := m.Look(), (api.State{Tokens: config.Burst}); got != want {
				t.Errorf("%s %d: Look() = %+v, want %+v", c.name, n, got, want)
			}
			addSenders(t, m, 3)
		}
		for _, n := range []int{c.least - 1, c.most + 1, math.MinInt, math.MaxInt} {
			config := usual
			*c.field(&config) = n
			if m, e := New(config); m != nil || e != api.ErrNumber {
				t.Errorf("%s %d: New = %v, %d", c.name, n, m, e)
			}
		}
	}
}

func TestP5Senders(t *testing.T) {
	m := made(t, usual)
	for _, source := range []int{-1, 4294967296, math.MinInt, math.MaxInt} {
		if e := m.AddSender(source); e != api.ErrNumber {
			t.Errorf("AddSender(%d) = %d", source, e)
		}
	}
	addSenders(t, m, 0, 4294967295, 3)
	addWant(t, m, 3, pair(7, 8))
	for _, source := range []int{0, 4294967295, 3, 7, 8} {
		if e := m.AddSender(source); e != api.ErrKnown {
			t.Errorf("AddSender(%d), known = %d", source, e)
		}
	}
	addSenders(t, m, 4)
	for source, want := range map[int]api.Errno{5: api.ErrFull, 3: api.ErrKnown, 8: api.ErrKnown, -1: api.ErrNumber} {
		if e := m.AddSender(source); e != want {
			t.Errorf("AddSender(%d) beside 4 = %d, want %d", source, e, want)
		}
	}
	if _, e := m.Missing(5); e != api.ErrNone {
		t.Errorf("Missing of a sender that was refused = %d", e)
	}
}

func TestP5WantsThatMayNotBe(t *testing.T) {
	m := made(t, usual)
	addSenders(t, m, 3)
	right := api.Want{Source: 7, Second: 8, Type: 100, SecondType: 101, First: 1000, SecondFirst: 2000}
	for _, c := range []struct {
		name  string
		field func(w *api.Want) *int
		most  int
	}{
		{"Source", func(w *api.Want) *int { return &w.Source }, 4294967295},
		{"Second", func(w *api.Want) *int { return &w.Second }, 4294967295},
		{"Type", func(w *api.Want) *int { return &w.Type }, 127},
		{"SecondType", func(w *api.Want) *int { return &w.SecondType }, 127},
		{"First", func(w *api.Want) *int { return &w.First }, 65535},
		{"SecondFirst", func(w *api.Want) *int { return &w.SecondFirst }, 65535},
	} {
		for _, n := range []int{-1, c.most + 1, math.MinInt, math.MaxInt} {
			w := right
			*c.field(&w) = n
			if id, e := m.AddWant(3, w); id != 0 || e != api.ErrNumber {
				t.Errorf("%s %d: AddWant = %d, %d", c.name, n, id, e)
			}
		}
		for _, n := range []int{0, c.most} {
			w := right
			*c.field(&w) = n
			if e := m.DropWant(addWant(t, m, 3, w)); e != api.OK {
				t.Errorf("%s %d: DropWant = %d", c.name, n, e)
			}
		}
	}
	if id, e := m.AddWant(3, pair(9, 9)); id != 0 || e != api.ErrNumber {
		t.Errorf("AddWant of one source twice = %d, %d", id, e)
	}
}

// Of several errors it is the one that the promise names first.
func TestP5OrderOfErrors(t *testing.T) {
	m := made(t, usual)
	addSenders(t, m, 3, 4)
	for i := range 7 {
		addWant(t, m, 3, pair(100+2*i, 101+2*i))
	}
	both := func(of int, w api.Want, want api.Errno) {
		t.Helper()
		if id, e := m.AddWant(of, w); id != 0 || e != want {
			t.Errorf("AddWant(%d, %+v) = %d, %d, want %d", of, w, id, e, want)
		}
	}
	both(5, pair(9, 9), api.ErrNone)
	both(100, pair(7, 8), api.ErrNone)
	both(-1, pair(7, 8), api.ErrNone)
	both(math.MaxInt, pair(-1, 8), api.ErrNone)
	both(3, pair(100, 100), api.ErrNumber)
	both(3, api.Want{Source: 3, Second: 8, Type: 128}, api.ErrNumber)
	for _, known := range []int{3, 4, 100, 101, 112, 113} {
		both(3, pair(known, 8), api.ErrKnown)
		both(3, pair(8, known), api.ErrKnown)
	}
	addWant(t, m, 4, pair(200, 201))
	both(3, pair(7, 8), api.ErrFull)
	both(3, pair(7, 200), api.ErrKnown)
	both(3, pair(7, 7), api.ErrNumber)
	both(5, pair(7, 8), api.ErrNone)
}

func TestP5IdsAndDrops(t *testing.T) {
	m := made(t, usual)
	addSenders(t, m, 3)
	for i := range 8 {
		if id := addWant(t, m, 3, pair(10+2*i, 11+2*i)); id != i+1 {
			t.Errorf("want %d has the id %d", i+1, id)
		}
		m.AddWant(3, pair(3, 9)) // a refusal takes no id
	}
	for _, id := range []int{0, -1, 9, math.MinInt, math.MaxInt} {
		if e := m.DropWant(id); e != api.ErrNone {
			t.Errorf("DropWant(%d) = %d", id, e)
		}
	}
	for i, id := range []int{8, 1, 4} {
		if e := m.DropWant(id); e != api.OK {
			t.Errorf("DropWant(%d) = %d", id, e)
		}
		if e := m.DropWant(id); e != api.ErrNone {
			t.Errorf("DropWant(%d) again = %d", id, e)
		}
		w := pair(8+2*id, 9+2*id) // the sources of the one that was dropped
		if got := addWant(t, m, 3, w); got != 9+i {
			t.Errorf("the want behind %d has the id %d, want %d", id, got, 9+i)
		}
		if _, e := m.AddWant(3, pair(50, 51)); e != api.ErrFull {
			t.Errorf("AddWant beside 8 = %d", e)
		}
	}
	m.DropWant(2)
	addSenders(t, m, 12, 13) // its sources are free for senders too
}
