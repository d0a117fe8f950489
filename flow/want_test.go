package flow

import (
	"slices"
	"testing"

	"mender/api"
)

// keptOf lists the numbers and payloads that are kept, in the order of going.
func keptOf(w *Want) (numbers []int, payloads string) {
	for _, x := range w.listed {
		numbers = append(numbers, int(x.number))
		payloads += x.known.packet.Payload
	}
	return numbers, payloads
}

func TestKept(t *testing.T) {
	type going struct {
		number   int
		payload  string
		numbers  []int
		payloads string
	}
	for name, c := range map[string]struct {
		ring int
		list []going
	}{
		"the one that went first is not": {3, []going{
			{1, "a", []int{65535}, "a"},
			{4, "b", []int{65535, 2}, "ab"},
			{2, "c", []int{65535, 2, 0}, "abc"},
			{5, "d", []int{2, 0, 3}, "bcd"},
			{3, "e", []int{0, 3, 1}, "cde"},
		}},
		"an older one under the same number is not": {3, []going{
			{1, "a", []int{65535}, "a"},
			{2, "b", []int{65535, 0}, "ab"},
			{3, "c", []int{65535, 0, 1}, "abc"},
			{1, "d", []int{0, 1, 65535}, "bcd"},
			{3, "e", []int{0, 65535, 1}, "bde"},
			{4, "f", []int{65535, 1, 2}, "def"},
		}},
		"a ring of one": {1, []going{
			{9, "a", []int{65535}, "a"},
			{9, "b", []int{65535}, "b"},
			{8, "c", []int{65534}, "c"},
		}},
	} {
		w := NewWant(1, 3, api.Want{Source: 7, Second: 8, First: 65535})
		for i, x := range c.list {
			w.Pass(api.Packet{Source: 3, Number: x.number, Payload: x.payload}, c.ring)
			if numbers, payloads := keptOf(w); !slices.Equal(numbers, x.numbers) || payloads != x.payloads {
				t.Errorf("%s, step %d: kept %v, %s, want %v, %s", name, i, numbers, payloads, x.numbers, x.payloads)
			}
		}
	}
}

// What is kept is the packet as it went.
func TestKeptAsItWent(t *testing.T) {
	w := NewWant(1, 3, api.Want{Source: 7, Second: 8, Type: 100, First: 500})
	went := w.Pass(api.Packet{Source: 3, Number: 1, Type: 96, Payload: "x", Padding: 3}, 64)
	if went.Source != 7 || went.Type != 100 || went.Number != 500 || went.Payload != "x" || went.Padding != 3 {
		t.Errorf("went: %+v", went)
	}
	if x := w.listed[0].known.packet; x.Source != 7 || x.Type != 100 || x.Number != 500 || x.Padding != 3 {
		t.Errorf("kept: %+v", x)
	}
}

func TestGreatestRing(t *testing.T) {
	w := NewWant(1, 3, api.Want{Source: 7, Second: 8})
	for i := range 200 {
		w.Pass(api.Packet{Number: i}, 64)
	}
	numbers, _ := keptOf(w)
	if len(numbers) != 64 || numbers[0] != 136 || numbers[63] != 199 {
		t.Errorf("kept %v", numbers)
	}
}

// What is refused changes nothing: neither the next number, nor the rest.
func TestAgain(t *testing.T) {
	w := NewWant(1, 3, api.Want{Source: 7, Second: 8, Type: 100, SecondType: 101, First: 500, SecondFirst: 65535})
	w.Pass(api.Packet{Source: 3, Number: 1, Payload: "x", Padding: 3}, 64)
	first := "\x80\x65\xff\xff\x00\x00\x00\x00\x00\x00\x00\x08\x01\xf4x"
	next := "\x80\x65\x00\x00\x00\x00\x00\x00\x00\x00\x00\x08\x01\xf4x"
	for i, c := range []struct {
		number      uint16
		now, tokens int
		want        string
	}{
		{499, 0, 1500, ""}, {501, 0, 1500, ""}, {1, 0, 1500, ""}, {500, 0, 0, ""}, {500, 0, 14, ""},
		{500, 0, 15, first}, {500, 0, 1500, ""}, {500, 9, 1500, ""}, {500, 10, 14, ""}, {500, 10, 15, next}, {500, 19, 15, ""},
	} {
		if text, sent := w.Again(c.number, c.now, 10, c.tokens); text != c.want || sent != (c.want != "") {
			t.Errorf("step %d: Again(%d) at %d = %x, %t, want %x", i, c.number, c.now, text, sent, c.want)
		}
	}
	if x := w.listed[0].known.packet; x.Source != 7 || x.Number != 500 || x.Payload != "x" || x.Padding != 3 {
		t.Errorf("kept: %+v", x)
	}
}
