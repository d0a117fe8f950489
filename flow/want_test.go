package flow

import (
	"slices"
	"testing"

	"mender/api"
)

// kept lists the numbers and payloads that are kept, in the order of going.
func kept(w *Want) (numbers []int, payloads string) {
	for _, x := range w.listed {
		numbers = append(numbers, int(x.number))
		payloads += x.known.Payload
	}
	return numbers, payloads
}

func TestKept(t *testing.T) {
	type going struct {
		number   int
		payload  string
		numbers  []int
		payloads string
	}
	for name, c := range map[string]struct {
		ring int
		list []going
	}{
		"the one that went first is not": {3, []going{
			{1, "a", []int{65535}, "a"},
			{4, "b", []int{65535, 2}, "ab"},
			{2, "c", []int{65535, 2, 0}, "abc"},
			{5, "d", []int{2, 0, 3}, "bcd"},
			{3, "e", []int{0, 3, 1}, "cde"},
		}},
		"an older one under the same number is not": {3, []going{
			{1, "a", []int{65535}, "a"},
			{2, "b", []int{65535, 0}, "ab"},
			{3, "c", []int{65535, 0, 1}, "abc"},
			{1, "d", []int{0, 1, 65535}, "bcd"},
			{3, "e", []int{0, 65535, 1}, "bde"},
			{4, "f", []int{65535, 1, 2}, "def"},
		}},
		"a ring of one": {1, []going{
			{9, "a", []int{65535}, "a"},
			{9, "b", []int{65535}, "b"},
			{8, "c", []int{65534}, "c"},
		}},
	} {
		w := NewWant(1, 3, api.Want{Source: 7, Second: 8, First: 65535})
		for i, x := range c.list {
			w.Pass(api.Packet{Source: 3, Number: x.number, Payload: x.payload}, c.ring)
			if numbers, payloads := kept(w); !slices.Equal(numbers, x.numbers) || payloads != x.payloads {
				t.Errorf("%s, step %d: kept %v, %s, want %v, %s", name, i, numbers, payloads, x.numbers, x.payloads)
			}
		}
	}
}

// What is kept is the packet as it went.
func TestKeptAsItWent(t *testing.T) {
	w := NewWant(1, 3, api.Want{Source: 7, Second: 8, Type: 100, First: 500})
	went := w.Pass(api.Packet{Source: 3, Number: 1, Type: 96, Payload: "x", Padding: 3}, 64)
	if went.Source != 7 || went.Type != 100 || went.Number != 500 || went.Payload != "x" || went.Padding != 3 {
		t.Errorf("went: %+v", went)
	}
	if x := w.listed[0].known; x.Source != 7 || x.Type != 100 || x.Number != 500 || x.Padding != 3 {
		t.Errorf("kept: %+v", x)
	}
}

func TestGreatestRing(t *testing.T) {
	w := NewWant(1, 3, api.Want{Source: 7, Second: 8})
	for i := range 200 {
		w.Pass(api.Packet{Number: i}, 64)
	}
	numbers, _ := kept(w)
	if len(numbers) != 64 || numbers[0] != 136 || numbers[63] != 199 {
		t.Errorf("kept %v", numbers)
	}
}
