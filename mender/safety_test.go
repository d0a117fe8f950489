package mender

import (
	"math"
	"reflect"
	"slices"
	"strings"
	"testing"

	"mender/api"
)

// P1: that none of these calls panics, or goes on for ever, is the test.
func TestP1TextsOfAnyLength(t *testing.T) {
	fills := []string{"\x00", "\x01", "\x80", "\x81\xcd", "\x90", "\xa0", "\xbf", "\xff", "\x81\xcd\x00\x00", "\x80\xc8\x00\x00"}
	lengths := []int{1 << 16, 1 << 20}
	for n := range 1600 {
		lengths = append(lengths, n)
	}
	for _, fill := range fills {
		long := strings.Repeat(fill, 1<<20)
		for _, n := range lengths {
			x, e := ParsePacket(long[:n])
			if e == api.OK && n > 1500 || e != api.OK && !reflect.DeepEqual(x, api.Packet{}) {
				t.Errorf("ParsePacket of %d times %x = %+v, %d", n, fill, x, e)
			}
			l, e := ParseReport(long[:n])
			if e == api.OK && n > 1500 || e != api.OK && len(l) != 0 {
				t.Errorf("ParseReport of %d times %x = %+v, %d", n, fill, l, e)
			}
		}
	}
}

func TestP1AnyNumbersAndLists(t *testing.T) {
	many := make([]int, 1<<20)
	for _, n := range []int{math.MinInt, math.MinInt32, -65536, -1, 1 << 32, math.MaxInt - 1, math.MaxInt} {
		for _, x := range []api.Packet{
			{Type: n}, {Number: n}, {Time: n}, {Source: n}, {Padding: n}, {Profile: n},
			{Extended: true, Profile: n}, {Contributors: []int{n}}, {Contributors: many, Padding: n},
		} {
			if s, e := TellPacket(x); s != "" || e != api.ErrNumber {
				t.Errorf("TellPacket at %d = %d bytes, %d", n, len(s), e)
			}
		}
		for _, x := range []api.Asking{ask(n, 0, 0), ask(0, n, 0), ask(0, 0, n), ask(n, n, many...), ask(n, n)} {
			if s, e := TellAsking(x); s != "" || e != api.ErrNumber {
				t.Errorf("TellAsking at %d = %d bytes, %d", n, len(s), e)
			}
		}
	}
	if s, e := TellPacket(api.Packet{Payload: strings.Repeat("p", 1<<24)}); s != "" || e != api.ErrForm {
		t.Errorf("TellPacket of a great payload = %d bytes, %d", len(s), e)
	}
}

func TestP1AnyNumbersAndTextsToAMender(t *testing.T) {
	m := made(t, usual)
	addSenders(t, m, 3)
	addWant(t, m, 3, pair(7, 8))
	for _, n := range []int{math.MinInt, -1 << 32, -1, 1<<32 + 3, math.MaxInt} {
		if id, e := m.AddWant(n, pair(n, n)); id != 0 || e != api.ErrNone {
			t.Errorf("AddWant(%d) = %d, %d", n, id, e)
		}
		if id, e := m.AddWant(3, pair(9, n)); id != 0 || e != api.ErrNumber {
			t.Errorf("AddWant at %d = %d, %d", n, id, e)
		}
		if list, e := m.Missing(n); len(list) != 0 || e != api.ErrNone {
			t.Errorf("Missing(%d) = %v, %d", n, list, e)
		}
		if e := m.DropWant(n); e != api.ErrNone {
			t.Errorf("DropWant(%d) = %d", n, e)
		}
		if out, e := m.Report(n, ""); len(out) != 0 || e != api.ErrNone {
			t.Errorf("Report(%d) = %x, %d", n, out, e)
		}
		if out, e := m.Tick(n); len(out) != 0 || e != api.ErrNumber {
			t.Errorf("Tick(%d) = %x, %d", n, out, e)
		}
		if e := m.AddSender(n); e != api.ErrNumber {
			t.Errorf("AddSender(%d) = %d", n, e)
		}
	}
	whole := numbered(t, 3, 5)
	wrong := []string{"", "\x80", noughts(1500), strings.Repeat("\x80", 1501), strings.Repeat("\xff", 1<<20)}
	for n := range 12 {
		wrong = append(wrong, whole[:n])
	}
	for i, text := range wrong {
		if out, e := m.Packet(text); len(out) != 0 || e != api.ErrForm {
			t.Errorf("Packet(%x) = %x, %d", text, out, e)
		}
		if got, want := m.Look(), (api.State{Tokens: 100, Wrong: i + 1}); got != want {
			t.Errorf("Packet(%x): Look() = %+v, want %+v", text, got, want)
		}
	}
}

// Whatever a want's report holds, the call ends, and what it answers is counted.
func TestP1AnyReportsToAMender(t *testing.T) {
	m := relaying(t, plenty, 0, 0)
	pass(t, m, 1, "a", "b", "c")
	for _, fill := range []string{"\x00", "\x01", "\x80", "\x81\xcd", "\xff", "\x81\xcd\x00\x00", "\x80\xc8\x00\x00", asking(t, 7, 0, 1, 2)} {
		long := strings.Repeat(fill, 1<<16)
		for n := range 1600 {
			before := m.Look()
			out, e := m.Report(1, long[:n])
			after := m.Look()
			switch {
			case e == api.OK && n <= 1500 && after.Again-before.Again == len(out) && after.Wrong == before.Wrong:
			case e == api.ErrForm && len(out) == 0 && after.Again == before.Again && after.Refused == before.Refused && after.Wrong == before.Wrong+1:
			default:
				t.Fatalf("Report of %d times %x = %x, %d; %+v, then %+v", n, fill, out, e, before, after)
			}
		}
	}
}

// What is not from New has no sender and takes none.
func TestP1NoMender(t *testing.T) {
	refused, _ := New(api.Config{})
	for name, m := range map[string]*Mender{"nil": nil, "refused": refused, "empty": {}} {
		if e := m.AddSender(3); e != api.ErrFull {
			t.Errorf("%s: AddSender = %d", name, e)
		}
		if e := m.AddSender(-1); e != api.ErrNumber {
			t.Errorf("%s: AddSender(-1) = %d", name, e)
		}
		if id, e := m.AddWant(3, pair(7, 8)); id != 0 || e != api.ErrNone {
			t.Errorf("%s: AddWant = %d, %d", name, id, e)
		}
		if e := m.DropWant(1); e != api.ErrNone {
			t.Errorf("%s: DropWant = %d", name, e)
		}
		if list, e := m.Missing(3); len(list) != 0 || e != api.ErrNone {
			t.Errorf("%s: Missing = %v, %d", name, list, e)
		}
		if got := m.Look(); got != (api.State{}) {
			t.Errorf("%s: Look() = %+v", name, got)
		}
		if out, e := m.Packet(""); len(out) != 0 || e != api.ErrForm {
			t.Errorf("%s: Packet of nothing = %x, %d", name, out, e)
		}
		if out, e := m.Packet(numbered(t, 3, 1)); len(out) != 0 || e != api.ErrNone {
			t.Errorf("%s: Packet = %x, %d", name, out, e)
		}
		if out, e := m.Report(1, ""); len(out) != 0 || e != api.ErrNone {
			t.Errorf("%s: Report = %x, %d", name, out, e)
		}
		if out, e := m.Tick(-1); len(out) != 0 || e != api.ErrNumber {
			t.Errorf("%s: Tick(-1) = %x, %d", name, out, e)
		}
		if out, e := m.Tick(1000000); len(out) != 0 || e != api.OK {
			t.Errorf("%s: Tick = %x, %d", name, out, e)
		}
	}
}

// roomy has spare room behind its numbers, filled, so that a change shows.
func roomy(numbers ...int) []int {
	list := append(slices.Clone(numbers), 77, 77, 77, 77)
	return list[:len(numbers)]
}

func TestP2ListsHandedInAreNotChanged(t *testing.T) {
	contributors := roomy(9, 8, 7)
	numbers := roomy(5, 8, 7, 8, 6, 30, 2)
	for range 2 {
		TellPacket(api.Packet{Contributors: contributors, Payload: "x", Padding: 3})
		TellAsking(api.Asking{Source: 3, Numbers: numbers})
	}
	if got := contributors[:7]; !slices.Equal(got, []int{9, 8, 7, 77, 77, 77, 77}) {
		t.Errorf("contributors are now %v", got)
	}
	if got := numbers[:11]; !slices.Equal(got, []int{5, 8, 7, 8, 6, 30, 2, 77, 77, 77, 77}) {
		t.Errorf("numbers are now %v", got)
	}
}

// spoil writes over a list and its spare room.
func spoil[T any](list []T, with T) {
	list = list[:cap(list)]
	for i := range list {
		list[i] = with
	}
}

func TestP2ContributorsAreNewMemory(t *testing.T) {
	text := unhex(t, "83 00 0000 00000000 00000000 00000001 00000002 00000003")
	before, _ := ParsePacket(text)
	spoiled, _ := ParsePacket(text)
	spoil(spoiled.Contributors, 99)
	after, _ := ParsePacket(text)
	want := []int{1, 2, 3}
	if !slices.Equal(before.Contributors, want) || !slices.Equal(after.Contributors, want) {
		t.Errorf("before %v, after %v", before.Contributors, after.Contributors)
	}
}

func TestP2AskingsAreNewMemory(t *testing.T) {
	text := unhex(t, "81 cd 0004 00000001 00000002 0003 0001 0064 0000"+askingOf3+askingOf3)
	want := []api.Asking{ask(1, 2, 3, 4, 100), ask(1, 2, 3), ask(1, 2, 3)}
	before, _ := ParseReport(text)
	for i := range want {
		spoiled, _ := ParseReport(text)
		spoil(spoiled[i].Numbers, 99)
		for k := range want {
			if k != i && !reflect.DeepEqual(spoiled[k], want[k]) {
				t.Errorf("asking %d is %+v, since %d was written into", k, spoiled[k], i)
			}
		}
		spoil(spoiled, ask(6, 6, 6))
	}
	after, _ := ParseReport(text)
	if !reflect.DeepEqual(before, want) || !reflect.DeepEqual(after, want) {
		t.Errorf("before %+v, after %+v", before, after)
	}
}

func TestP2SentAgainIsNewMemory(t *testing.T) {
	m := relaying(t, plenty, 100, 0)
	pass(t, m, 1, "a", "b")
	a, b := api.Packet{Payload: "a"}, api.Packet{Payload: "b"}
	report := asking(t, 7, 100, 101)
	before, _ := m.Report(1, report)
	spoiled, _ := m.Report(1, report)
	spoil(spoiled, "spoiled")
	again(t, m, 1, report, resent(t, a, 8, 101, 4, 100), resent(t, b, 8, 101, 5, 101))
	if want := []string{resent(t, a, 8, 101, 0, 100), resent(t, b, 8, 101, 1, 101)}; !slices.Equal(before, want) {
		t.Errorf("before = %x, want %x", before, want)
	}
}

func TestP2AskedForIsNewMemory(t *testing.T) {
	m := made(t, api.Config{Ring: 1, Window: 8, Retry: 1, Tries: 10})
	addSenders(t, m, 3, 4)
	come(t, m, 3, 1, 4)
	come(t, m, 4, 6, 8)
	want := []string{asksFor(t, 3, 2, 3), asksFor(t, 4, 7)}
	before, _ := m.Tick(1)
	spoiled, _ := m.Tick(1)
	spoil(spoiled, "spoiled")
	ticks(t, m, 1, want...)
	if !slices.Equal(before, want) {
		t.Errorf("before = %x, want %x", before, want)
	}
}
