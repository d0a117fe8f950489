package mender

import (
	"math/rand/v2"
	"slices"
	"testing"

	"mender/api"
)

// model is a sender as the document's rules tell it, word for word, at the
// cost of going through all numbers.
type model struct {
	window  int
	begun   bool
	newest  int
	missing map[int]asked
	state   *api.State
}

// asked is how a missing number was asked for.
type asked struct{ last, tries int }

// behind: a is so much behind b.
func behind(a, b int) int { return (b - a + 65536) % 65536 }

func (d *model) comes(n int) bool {
	k := behind(d.newest, n)
	switch {
	case !d.begun:
		d.begun, d.newest, d.missing = true, n, map[int]asked{}
	case k >= 1 && k <= 32767:
		d.isNew(n, k)
	case behind(n, d.newest) >= d.window:
		d.state.Late++
		return false
	case d.lacks(n):
		delete(d.missing, n)
	default:
		d.state.Doubled++
		return false
	}
	d.state.Passed++
	return true
}

func (d *model) lacks(n int) bool {
	_, ok := d.missing[n]
	return ok
}

func (d *model) isNew(n, k int) {
	if k > d.window {
		d.state.GivenUp += len(d.missing)
		clear(d.missing)
	} else {
		for i := 1; i < k; i++ {
			d.missing[(d.newest+i)%65536] = asked{last: d.state.Now}
		}
	}
	d.newest = n
	for number := range d.missing {
		if behind(number, n) >= d.window {
			d.state.GivenUp++
			delete(d.missing, number)
		}
	}
}

func (d *model) list() []int {
	var list []int
	for k := d.window; k > 0; k-- {
		if n := behind(k, d.newest); d.lacks(n) {
			list = append(list, n)
		}
	}
	return list
}

// next is a number around the newest one, mostly where a rule has an edge.
func next(r *rand.Rand, newest, window int) int {
	edges := []int{0, 1, 2, 3, window - 1, window, window + 1, 32766, 32767, 32768, 32769}
	far := edges[r.IntN(len(edges))]
	switch r.IntN(8) {
	case 0:
		far = -far
	case 1, 2, 3:
		far = -r.IntN(window + 2)
	case 4, 5:
		far = 1 + r.IntN(3)
	}
	return (newest + far + 65536) % 65536
}

func TestP6AsTheRulesSay(t *testing.T) {
	for seed := range uint64(60) {
		r := rand.New(rand.NewPCG(seed, 5))
		c := usual
		c.Window = []int{1, 2, 3, 8, 50, 200}[seed%6]
		m := made(t, c)
		addSenders(t, m, 3)
		first := r.IntN(65536)
		addWant(t, m, 3, api.Want{Source: 7, Second: 8, First: first})
		state := m.Look()
		d := model{window: c.Window, state: &state, newest: r.IntN(65536)}
		began := -1
		for step := range 2000 {
			n := next(r, d.newest, c.Window)
			var want []string
			if d.comes(n) {
				if began < 0 {
					began = n
				}
				want = []string{as(t, api.Packet{Payload: "x"}, 7, 0, (first+behind(began, n))%65536)}
			}
			out, e := m.Packet(numbered(t, 3, n))
			missing, _ := m.Missing(3)
			if e != api.OK || !slices.Equal(out, want) || m.Look() != state || !slices.Equal(missing, d.list()) {
				t.Fatalf("seed %d, step %d, number %d: %x, %d, %+v, missing %v; want %x, %+v, %v", seed, step, n, out, e, m.Look(), missing, want, state, d.list())
			}
		}
	}
}
