package mender

import (
	"math"
	"slices"
	"testing"

	"mender/api"
)

// ticks checks what is asked for when time goes on: each report whole.
func ticks(t *testing.T, m *Mender, time int, want ...string) {
	t.Helper()
	if out, e := m.Tick(time); e != api.OK || !slices.Equal(out, want) {
		t.Errorf("Tick(%d) = %x, %d, want %x", time, out, e, want)
	}
}

// asksFor is the report of what is asked for of a sender.
func asksFor(t testing.TB, source int, numbers ...int) string {
	t.Helper()
	text, e := TellAsking(ask(0, source, numbers...))
	if e != api.OK {
		t.Fatalf("TellAsking(%d, %v) = %d", source, numbers, e)
	}
	return text
}

func missing(t *testing.T, m *Mender, source int, want ...int) {
	t.Helper()
	if got, e := m.Missing(source); e != api.OK || !slices.Equal(got, want) {
		t.Errorf("Missing(%d) = %v, %d, want %v", source, got, e, want)
	}
}

// come has packets of a sender come.
func come(t testing.TB, m *Mender, source int, numbers ...int) {
	t.Helper()
	for _, n := range numbers {
		if _, e := m.Packet(numbered(t, source, n)); e != api.OK {
			t.Fatalf("Packet %d of %d = %d", n, source, e)
		}
	}
}

func TestP8TimeAndTokens(t *testing.T) {
	for _, c := range []struct{ rate, burst, spent, ticks, tokens int }{
		{0, 1000000, 15, 1000000, 999985},
		{1, 1000000, 15, 14, 999999},
		{1, 1000000, 15, 15, 1000000},
		{1, 1000000, 15, 16, 1000000},
		{100000, 1000000, 15, 0, 999985},
		{100000, 1000000, 15, 1, 1000000},
		{100000, 1000000, 15, 1000000, 1000000},
		{100000, 15, 15, 1000000, 15},
		{7, 29, 15, 1, 21},
		{7, 29, 15, 2, 28},
		{7, 29, 15, 3, 29},
	} {
		config := plenty
		config.Rate, config.Burst = c.rate, c.burst
		m := relaying(t, config, 0, 0)
		come(t, m, 3, 9)
		m.Report(1, asking(t, 7, 0))
		want := api.State{Tokens: c.burst - c.spent, Passed: 1, Again: 1}
		if got := m.Look(); got != want {
			t.Errorf("%+v: Look() = %+v, want %+v", c, got, want)
		}
		ticks(t, m, c.ticks)
		want.Now, want.Tokens = c.ticks, c.tokens
		if got := m.Look(); got != want {
			t.Errorf("%+v: Look() = %+v, want %+v", c, got, want)
		}
	}
}

func TestP8WrongTicks(t *testing.T) {
	m := relaying(t, api.Config{Ring: 1, Window: 8, Rate: 1, Burst: 20, Retry: 10, Tries: 1}, 0, 0)
	come(t, m, 3, 1, 3)
	m.Report(1, asking(t, 7, 2))
	ticks(t, m, 1)
	want := api.State{Now: 1, Tokens: 6, Passed: 2, Again: 1}
	for _, n := range []int{-1, -1000000, 1000001, 1 << 32, math.MinInt, math.MaxInt} {
		if out, e := m.Tick(n); len(out) != 0 || e != api.ErrNumber {
			t.Errorf("Tick(%d) = %x, %d", n, out, e)
		}
		if got := m.Look(); got != want {
			t.Errorf("Tick(%d): Look() = %+v, want %+v", n, got, want)
		}
	}
	missing(t, m, 3, 2)
	ticks(t, m, 1000000, asksFor(t, 3, 2))
	want.Now, want.Tokens, want.Asked = 1000001, 20, 1
	if got := m.Look(); got != want {
		t.Errorf("Look() = %+v, want %+v", got, want)
	}
}

// A number is asked for every Retry, Tries times, and given up the next time.
func TestP8RetryAndTries(t *testing.T) {
	for _, retry := range []int{1, 2, 20, 999999, 1000000} {
		for _, tries := range []int{0, 1, 2, 9, 10} {
			m := made(t, api.Config{Ring: 1, Window: 8, Retry: retry, Tries: tries})
			addSenders(t, m, 3)
			ticks(t, m, 5)
			come(t, m, 3, 65535, 1)
			for i := range tries {
				ticks(t, m, 0)
				ticks(t, m, retry-1)
				ticks(t, m, 1, asksFor(t, 3, 0))
				missing(t, m, 3, 0)
				if x := m.Look(); x.Asked != i+1 || x.GivenUp != 0 || x.Now != 5+retry*(i+1) {
					t.Errorf("retry %d, tries %d: Look() = %+v", retry, tries, x)
				}
			}
			ticks(t, m, retry-1)
			missing(t, m, 3, 0)
			ticks(t, m, 1)
			missing(t, m, 3)
			if x := m.Look(); x.Asked != tries || x.GivenUp != 1 {
				t.Errorf("retry %d, tries %d: Look() = %+v", retry, tries, x)
			}
			come(t, m, 3, 0) // what was given up, and comes
			if x := m.Look(); x.Doubled != 1 || x.Passed != 2 {
				t.Errorf("retry %d, tries %d: Look() = %+v", retry, tries, x)
			}
		}
	}
}

// However far time goes on at once, a number is asked for once; what was asked
// for later than it was due is due as much later again.
func TestP8LongTicks(t *testing.T) {
	m := made(t, api.Config{Ring: 1, Window: 8, Retry: 10, Tries: 3})
	addSenders(t, m, 3)
	come(t, m, 3, 1, 3)
	ticks(t, m, 25, asksFor(t, 3, 2))
	ticks(t, m, 9)
	ticks(t, m, 1, asksFor(t, 3, 2))
	ticks(t, m, 1000000, asksFor(t, 3, 2))
	ticks(t, m, 9)
	missing(t, m, 3, 2)
	ticks(t, m, 1)
	missing(t, m, 3)
}

// Numbers that were found at other times are asked for at other times; some
// may be given up while others are asked for.
func TestP8NumbersApart(t *testing.T) {
	m := made(t, api.Config{Ring: 1, Window: 30, Retry: 10, Tries: 2})
	addSenders(t, m, 3)
	come(t, m, 3, 65533, 0) // 65534, 65535
	ticks(t, m, 4)
	come(t, m, 3, 3) // 1, 2
	ticks(t, m, 3)
	come(t, m, 3, 5) // 4
	ticks(t, m, 2)
	ticks(t, m, 1, asksFor(t, 3, 65534, 65535)) // at 10
	come(t, m, 3, 65535)
	ticks(t, m, 4, asksFor(t, 3, 1, 2)) // at 14
	ticks(t, m, 2)
	ticks(t, m, 1, asksFor(t, 3, 4)) // at 17
	come(t, m, 3, 1)
	ticks(t, m, 7, asksFor(t, 3, 65534, 2)) // at 24
	missing(t, m, 3, 65534, 2, 4)
	come(t, m, 3, 7)                 // 6
	ticks(t, m, 3, asksFor(t, 3, 4)) // at 27
	ticks(t, m, 8, asksFor(t, 3, 6)) // at 35: 65534 and 2 are given up
	missing(t, m, 3, 4, 6)
	ticks(t, m, 1)   // at 36
	come(t, m, 3, 9) // 8
	ticks(t, m, 1)   // at 37: 4 is given up
	missing(t, m, 3, 6, 8)
	ticks(t, m, 9, asksFor(t, 3, 6, 8)) // at 46
	ticks(t, m, 10, asksFor(t, 3, 8))   // at 56: 6 is given up
	ticks(t, m, 10)                     // at 66: 8 is given up
	missing(t, m, 3)
	if got, want := m.Look(), (api.State{Now: 66, Passed: 8, Asked: 12, GivenUp: 5}); got != want {
		t.Errorf("Look() = %+v, want %+v", got, want)
	}
}

// A number that is missing, comes, is given up and is missing once more, has
// no tries and is found anew.
func TestP8FoundAnew(t *testing.T) {
	m := made(t, api.Config{Ring: 1, Window: 8, Retry: 10, Tries: 1})
	addSenders(t, m, 3)
	come(t, m, 3, 1, 3)
	ticks(t, m, 10, asksFor(t, 3, 2))
	come(t, m, 3, 30000, 60000, 1)
	if x := m.Look(); x.GivenUp != 1 {
		t.Errorf("begun anew: Look() = %+v", x)
	}
	missing(t, m, 3)
	ticks(t, m, 5)
	come(t, m, 3, 3)
	missing(t, m, 3, 2)
	ticks(t, m, 9)
	ticks(t, m, 1, asksFor(t, 3, 2))
	ticks(t, m, 10)
	missing(t, m, 3)
}

// A report for each sender of which something is asked for, in the order in
// which they came.
func TestP8AskedOfSenders(t *testing.T) {
	m := made(t, api.Config{Ring: 1, Window: 8, Retry: 10, Tries: 1})
	addSenders(t, m, 4294967295, 5, 0, 4)
	addWant(t, m, 5, pair(7, 8))
	come(t, m, 4, 1, 3)
	come(t, m, 5, 100, 101)
	come(t, m, 4294967295, 65534, 2)
	ticks(t, m, 1)
	come(t, m, 0, 7, 9)
	ticks(t, m, 9, asksFor(t, 4294967295, 65535, 0, 1), asksFor(t, 4, 2))
	come(t, m, 5, 103)
	ticks(t, m, 1, asksFor(t, 0, 8))
	ticks(t, m, 9, asksFor(t, 5, 102)) // and of two others four are given up
	missing(t, m, 4294967295)
	missing(t, m, 4)
	missing(t, m, 0, 8)
	if x := m.Look(); x.Asked != 6 || x.GivenUp != 4 {
		t.Errorf("Look() = %+v", x)
	}
}

func TestP8ReportAsBytes(t *testing.T) {
	m := made(t, api.Config{Ring: 1, Window: 40, Retry: 1, Tries: 1})
	addSenders(t, m, 3)
	come(t, m, 3, 4, 7, 8, 9, 10, 11, 12, 13, 14, 15, 16, 17, 18, 19, 20, 23)
	ticks(t, m, 1, unhex(t, "81 cd 0004 00000000 00000003 0005 8001 0016 0000"))
}

// Of the widest window all but the newest may be missing.
func TestP8MostNumbers(t *testing.T) {
	for _, first := range []int{0, 65335, 65336, 65400, 65534, 65535} {
		m := made(t, api.Config{Ring: 1, Window: 200, Retry: 1, Tries: 10})
		addSenders(t, m, 3)
		come(t, m, 3, first, first+200)
		want := from((first+1)&65535, 199)
		missing(t, m, 3, want...)
		ticks(t, m, 1, asksFor(t, 3, want...))
		if x := m.Look(); x.Asked != 199 {
			t.Errorf("Look() = %+v", x)
		}
		ticks(t, m, 1, asksFor(t, 3, want...))
		come(t, m, 3, first+1, first+199)
		ticks(t, m, 1, asksFor(t, 3, want[1:198]...))
	}
}

// Many numbers apart need as many entries, and are one report still.
func TestP8MostEntries(t *testing.T) {
	m := made(t, api.Config{Ring: 1, Window: 200, Retry: 1, Tries: 1})
	addSenders(t, m, 3)
	var want []int
	come(t, m, 3, 0)
	for n := 17; n < 200; n += 17 {
		come(t, m, 3, n)
		come(t, m, 3, from(n-15, 15)...)
		want = append(want, n-16)
	}
	ticks(t, m, 1, asksFor(t, 3, want...))
	if len(want) != 11 || len(asksFor(t, 3, want...)) != 12+4*11 {
		t.Errorf("asked for %v", want)
	}
}

// GivenUp is counted by the window, where it is begun anew, and by tries.
func TestP8GivenUp(t *testing.T) {
	m := made(t, api.Config{Ring: 1, Window: 4, Retry: 10, Tries: 0})
	addSenders(t, m, 3)
	givenUp := func(want int) {
		t.Helper()
		if x := m.Look(); x.GivenUp != want || x.Asked != 0 {
			t.Errorf("Look() = %+v, want %d given up", x, want)
		}
	}
	come(t, m, 3, 1, 4) // 2, 3
	givenUp(0)
	come(t, m, 3, 6) // 5; 2 is four behind
	givenUp(1)
	missing(t, m, 3, 3, 5)
	come(t, m, 3, 11) // begun anew
	givenUp(3)
	missing(t, m, 3)
	come(t, m, 3, 13) // 12
	ticks(t, m, 9)
	givenUp(3)
	ticks(t, m, 1)
	givenUp(4)
	come(t, m, 3, 14, 15, 16, 17)
	givenUp(4)
}
