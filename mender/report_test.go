package mender

import (
	"math"
	"reflect"
	"slices"
	"strings"
	"testing"

	"mender/api"
)

func ask(sender, source int, numbers ...int) api.Asking {
	return api.Asking{Sender: sender, Source: source, Numbers: numbers}
}

// from lists so many numbers, round.
func from(first, count int) []int {
	var list []int
	for i := range count {
		list = append(list, (first+i)%65536)
	}
	return list
}

const askingOf3 = "81 cd 0003 00000001 00000002 0003 0000"

var reportCases = []struct {
	name, hex string
	x         api.Asking
}{
	{"example 2", "81 cd 0004 00000000 00000003 0005 8001 0016 0000", ask(0, 3, 5, 6, 21, 22)},
	{"one number", askingOf3, ask(1, 2, 3)},
	{"highest numbers", "81 cd 0003 ffffffff ffffffff ffff 0000", ask(4294967295, 4294967295, 65535)},
	{"order of bytes", "81 cd 0003 01020304 05060708 090a 0000", ask(0x1020304, 0x5060708, 0x90a)},
	{"all bits", "81 cd 0003 00000001 00000002 0005 ffff", ask(1, 2, from(5, 17)...)},
	{"lowest bit", "81 cd 0003 00000001 00000002 0005 0001", ask(1, 2, 5, 6)},
	{"highest bit of the low byte", "81 cd 0003 00000001 00000002 0005 0080", ask(1, 2, 5, 13)},
	{"lowest bit of the high byte", "81 cd 0003 00000001 00000002 0005 0100", ask(1, 2, 5, 14)},
	{"highest bit", "81 cd 0003 00000001 00000002 0005 8000", ask(1, 2, 5, 21)},
	{"17 ahead", "81 cd 0004 00000001 00000002 0005 0000 0016 0000", ask(1, 2, 5, 22)},
	{"round", "81 cd 0003 00000001 00000002 fffe 8003", ask(1, 2, 65534, 65535, 0, 14)},
	{"round, 17 ahead", "81 cd 0004 00000001 00000002 fffe 0000 000f 0000", ask(1, 2, 65534, 15)},
	{"ahead of the entry, not of the last", "81 cd 0004 00000001 00000002 0064 0200 0078 0200", ask(1, 2, 100, 110, 120, 130)},
	{"a greatest step", "81 cd 0004 00000001 00000002 0000 0000 7fff 0000", ask(1, 2, 0, 32767)},
}

func TestP4AskingsReadAndTold(t *testing.T) {
	for _, c := range reportCases {
		text := unhex(t, c.hex)
		if s, e := TellAsking(c.x); e != api.OK || s != text {
			t.Errorf("%s: TellAsking = %x, %d, want %x", c.name, s, e, text)
		}
		if l, e := ParseReport(text); e != api.OK || !reflect.DeepEqual(l, []api.Asking{c.x}) {
			t.Errorf("%s: ParseReport = %+v, %d, want %+v", c.name, l, e, c.x)
		}
	}
}

func TestP4NumbersInAnyOrder(t *testing.T) {
	for _, c := range []struct {
		name, entries string
		given, read   []int
	}{
		{"the same twice", "0005 0000 0005 0000", []int{5, 5}, []int{5, 5}},
		{"the same bit twice", "0005 0001", []int{5, 6, 6}, []int{5, 6}},
		{"one behind", "0009 0000 0008 0000", []int{9, 8}, []int{9, 8}},
		{"bits in another order", "0005 0007", []int{5, 8, 7, 6}, []int{5, 6, 7, 8}},
		{"back to the first entry's", "0005 0000 0016 0000 0006 0000", []int{5, 22, 6}, []int{5, 22, 6}},
	} {
		words := string([]byte{byte(2 + len(unhex(t, c.entries))/4)})
		text := "\x81\xcd\x00" + words + unhex(t, "00000001 00000002"+c.entries)
		if s, e := TellAsking(ask(1, 2, c.given...)); e != api.OK || s != text {
			t.Errorf("%s: TellAsking = %x, %d, want %x", c.name, s, e, text)
		}
		if l, e := ParseReport(text); e != api.OK || !reflect.DeepEqual(l, []api.Asking{ask(1, 2, c.read...)}) {
			t.Errorf("%s: ParseReport = %+v, %d, want %v", c.name, l, e, c.read)
		}
	}
}

func TestP4RisingNumbersAreReadAgain(t *testing.T) {
	steps := []int{1, 2, 8, 9, 15, 16, 17, 18, 300, 16384, 32766, 32767}
	for _, odd := range steps {
		for _, even := range steps {
			for _, first := range []int{0, 1, 40000, 65520, 65535} {
				x := ask(7, 8, rising(first, odd, even)...)
				s, e := TellAsking(x)
				l, read := ParseReport(s)
				if e != api.OK || read != api.OK || !reflect.DeepEqual(l, []api.Asking{x}) {
					t.Fatalf("from %d by %d and %d: %d, %d, %+v", first, odd, even, e, read, l)
				}
			}
		}
	}
}

// rising lists 300 numbers, round, by two steps in turn.
func rising(first, odd, even int) []int {
	var list []int
	for n := first; len(list) < 300; n += odd + even {
		list = append(list, n%65536, (n+odd)%65536)
	}
	return list
}

func TestP4PartsThatSayNothing(t *testing.T) {
	one := unhex(t, askingOf3)
	for name, other := range map[string]string{
		"kind 200":          "\x80\xc8\x00\x01abcd",
		"kind 206, form 1":  "\x81\xce\x00\x03abcdabcdabcd",
		"kind 204, form 1":  "\x81\xcc\x00\x03abcdabcdabcd",
		"kind 205, form 0":  "\x80\xcd\x00\x03abcdabcdabcd",
		"kind 205, form 2":  "\x82\xcd\x00\x03abcdabcdabcd",
		"kind 205, form 17": "\x91\xcd\x00\x03abcdabcdabcd",
		"kind 205, form 31": "\x9f\xcd\x00\x00",
		"nothing behind it": "\x80\x00\x00\x00",
	} {
		if l, e := ParseReport(other); e != api.OK || len(l) != 0 {
			t.Errorf("%s: ParseReport = %+v, %d", name, l, e)
		}
		if l, e := ParseReport(other + one + other); e != api.OK || !reflect.DeepEqual(l, []api.Asking{ask(1, 2, 3)}) {
			t.Errorf("%s: around an asking: %+v, %d", name, l, e)
		}
	}
}

func TestP4AskingsInOrder(t *testing.T) {
	one := unhex(t, askingOf3)
	two := unhex(t, "81 cd 0004 00000004 00000005 0006 0002 0000 0001")
	want := []api.Asking{ask(1, 2, 3), ask(4, 5, 6, 8, 0, 1), ask(1, 2, 3)}
	if l, e := ParseReport(one + two + "\x80\xc8\x00\x00" + one); e != api.OK || !reflect.DeepEqual(l, want) {
		t.Errorf("ParseReport = %+v, %d, want %+v", l, e, want)
	}
}

func TestP4NoReport(t *testing.T) {
	one := unhex(t, askingOf3)
	for name, text := range map[string]string{
		"empty":                         "",
		"3 bytes":                       "\x80\xc8\x00",
		"part cut off":                  "\x80\xc8\x00\x01abc",
		"greatest part cut off":         "\x80\xc8\xff\xffabcd",
		"version 0":                     "\x00\xc8\x00\x00",
		"version 1":                     "\x40\xc8\x00\x00",
		"version 3":                     "\xc0\xc8\x00\x00",
		"padding":                       "\xa0\xc8\x00\x00",
		"asking with padding":           "\xa1" + one[1:],
		"asking of nothing":             "\x81\xcd\x00\x00",
		"asking without a source":       "\x81\xcd\x00\x01abcd",
		"asking without an entry":       "\x81\xcd\x00\x02abcdabcd",
		"an entry of the next part":     "\x81\xcd\x00\x02abcdabcd" + "\x80\xc8\x00\x00",
		"byte behind an asking":         one + "\x80",
		"wrong part behind an asking":   one + "\x40\xc8\x00\x00",
		"part behind an asking cut off": one + "\x80\xc8\x00\x01",
		"empty asking behind an asking": one + "\x81\xcd\x00\x02abcdabcd",
		"1504 bytes":                    strings.Repeat(one, 94),
		"1501 bytes":                    "\x80\xc8\x01\x76" + noughts(1497),
	} {
		if l, e := ParseReport(text); e != api.ErrForm || len(l) != 0 {
			t.Errorf("%s: ParseReport = %+v, %d", name, l, e)
		}
	}
}

func TestP4LongestReports(t *testing.T) {
	full := "\x80\xc8\x01\x76" + noughts(1496)
	if l, e := ParseReport(full); e != api.OK || len(l) != 0 {
		t.Errorf("part of 1500 bytes: %+v, %d", l, e)
	}
	if l, e := ParseReport(strings.Repeat("\x80\xc8\x00\x00", 375)); e != api.OK || len(l) != 0 {
		t.Errorf("375 parts: %+v, %d", l, e)
	}
	// 372 entries of 17 numbers each: more than may be told is read all the same.
	text := "\x81\xcd\x01\x76" + noughts(8) + strings.Repeat("\xff\xf8\xff\xff", 372)
	l, e := ParseReport(text)
	if e != api.OK || len(l) != 1 {
		t.Fatalf("asking of 1500 bytes: %d askings, %d", len(l), e)
	}
	if want := slices.Repeat(from(65528, 17), 372); !slices.Equal(l[0].Numbers, want) {
		t.Errorf("asking of 1500 bytes: %d numbers, want %d", len(l[0].Numbers), len(want))
	}
}

func TestP4EveryPairOfBytes(t *testing.T) {
	for bits := range 65536 {
		want := []int{65530}
		for i := range 16 {
			if bits/(1<<i)%2 == 1 {
				want = append(want, (65531+i)%65536)
			}
		}
		text := "\x81\xcd\x00\x03" + noughts(8) + "\xff\xfa" + string([]byte{byte(bits / 256), byte(bits % 256)})
		l, e := ParseReport(text)
		if e != api.OK || len(l) != 1 || !slices.Equal(l[0].Numbers, want) {
			t.Fatalf("bits %#x: %+v, %d, want %v", bits, l, e, want)
		}
		if s, e := TellAsking(ask(0, 0, want...)); e != api.OK || s != text {
			t.Fatalf("bits %#x: TellAsking = %x, %d", bits, s, e)
		}
	}
}

func TestP4AskingsThatMayNotBe(t *testing.T) {
	for name, x := range map[string]api.Asking{
		"sender above":   ask(1<<32, 2, 3),
		"sender below":   ask(-1, 2, 3),
		"source above":   ask(1, 1<<32, 3),
		"source below":   ask(1, -1, 3),
		"number above":   ask(1, 2, 3, 65536),
		"number below":   ask(1, 2, -1, 3),
		"lowest of all":  ask(math.MinInt, 2, 3),
		"highest of all": ask(1, 2, math.MaxInt),
		"no numbers":     ask(1, 2),
		"301 numbers":    ask(1, 2, from(0, 301)...),
	} {
		if s, e := TellAsking(x); s != "" || e != api.ErrNumber {
			t.Errorf("%s: TellAsking = %x, %d", name, s, e)
		}
	}
	if s, e := TellAsking(ask(1, 2, make([]int, 300)...)); len(s) != 12+4*300 || e != api.OK {
		t.Errorf("300 numbers, an entry each: %d bytes, %d", len(s), e)
	}
}

// What is read can be told, if it is not too much, and is then read the same.
func FuzzReport(f *testing.F) {
	for _, c := range reportCases {
		f.Add(unhex(f, c.hex))
	}
	f.Add(unhex(f, askingOf3+"80 c8 0000"+askingOf3))
	f.Fuzz(func(t *testing.T, text string) {
		askings, e := ParseReport(text)
		if e != api.OK && (e != api.ErrForm || len(askings) != 0) {
			t.Errorf("ParseReport(%x) = %+v, %d", text, askings, e)
		}
		for _, x := range askings {
			s, told := TellAsking(x)
			if told != api.OK && len(x.Numbers) <= api.MaxAsked {
				t.Errorf("TellAsking(%+v) = %x, %d", x, s, told)
			}
			if _, e := ParseReport(s); told == api.OK && e != api.OK {
				t.Errorf("ParseReport(%x) = %d", s, e)
			}
		}
	})
}
