package mender

import (
	"encoding/hex"
	"math"
	"reflect"
	"strings"
	"testing"

	"mender/api"
)

// unhex reads bytes that are written in hexadecimal, spaces between at will.
func unhex(t testing.TB, text string) string {
	t.Helper()
	b, err := hex.DecodeString(strings.ReplaceAll(text, " ", ""))
	if err != nil {
		t.Fatal(err)
	}
	return string(b)
}

func noughts(n int) string { return strings.Repeat("\x00", n) }

// plainHead: a packet of 12 bytes that has nothing but its first byte.
func plainHead(first byte) string { return string([]byte{first}) + noughts(11) }

type packetCase struct {
	name, hex string
	x         api.Packet
}

var packetCases = []packetCase{
	{"example 1", "80 60 0001 00000002 00000003 6162", api.Packet{Type: 96, Number: 1, Time: 2, Source: 3, Payload: "ab"}},
	{"nothing but the head", "80 00 0000 00000000 00000000", api.Packet{}},
	{"highest numbers", "80 ff ffff ffffffff ffffffff", api.Packet{Marker: true, Type: 127, Number: 65535, Time: 4294967295, Source: 4294967295}},
	{"marker alone", "80 80 0000 00000000 00000000", api.Packet{Marker: true}},
	{"order of bytes", "80 01 0203 04050607 08090a0b 0c", api.Packet{Type: 1, Number: 0x203, Time: 0x4050607, Source: 0x8090a0b, Payload: "\x0c"}},
	{"contributors", "82 00 0000 00000000 00000000 01020304 ffffffff 78", api.Packet{Contributors: []int{0x1020304, 4294967295}, Payload: "x"}},
	{"empty extension", "90 00 0000 00000000 00000000 0000 0000", api.Packet{Extended: true}},
	{"extension", "90 00 0000 00000000 00000000 bede 0001 61626364 78", api.Packet{Extended: true, Profile: 0xbede, Extension: "abcd", Payload: "x"}},
	{"highest profile", "90 00 0000 00000000 00000000 ffff 0000", api.Packet{Extended: true, Profile: 65535}},
	{"padding of one", "a0 00 0000 00000000 00000000 78 01", api.Packet{Payload: "x", Padding: 1}},
	{"padding and no payload", "a0 00 0000 00000000 00000000 00 00 03", api.Packet{Padding: 3}},
	{"noughts of the payload ahead of padding", "a0 00 0000 00000000 00000000 00 00 00 02", api.Packet{Payload: "\x00\x00", Padding: 2}},
	{"all of it", "b1 e0 0001 00000002 00000003 00000004 0005 0002 6162636465666768 78 00 02", api.Packet{Marker: true, Type: 96, Number: 1, Time: 2, Source: 3, Contributors: []int{4}, Extended: true, Profile: 5, Extension: "abcdefgh", Payload: "x", Padding: 2}},
}

// longCases: the edges that the document names by a length.
func longCases() []packetCase {
	payload := strings.Repeat("p", 1488)
	extension := strings.Repeat("e", 1484)
	return []packetCase{
		{"1500 bytes", hex.EncodeToString([]byte(plainHead(0x80) + payload)), api.Packet{Payload: payload}},
		{"1500 bytes by an extension", hex.EncodeToString([]byte(plainHead(0x90) + "\x00\x00\x01\x73" + extension)), api.Packet{Extended: true, Extension: extension}},
		{"15 contributors", hex.EncodeToString([]byte(plainHead(0x8f) + noughts(60))), api.Packet{Contributors: make([]int, 15)}},
		{"padding of 255", hex.EncodeToString([]byte(plainHead(0xa0) + noughts(254) + "\xff")), api.Packet{Padding: 255}},
	}
}

// plain takes away the one freedom of an answer: nil or empty.
func plain(x api.Packet) api.Packet {
	if len(x.Contributors) == 0 {
		x.Contributors = nil
	}
	return x
}

func TestP3PacketsReadAndTold(t *testing.T) {
	for _, c := range append(longCases(), packetCases...) {
		text := unhex(t, c.hex)
		if x, e := ParsePacket(text); e != api.OK || !reflect.DeepEqual(plain(x), c.x) {
			t.Errorf("%s: ParsePacket = %+v, %d, want %+v", c.name, x, e, c.x)
		}
		if s, e := TellPacket(c.x); e != api.OK || s != text {
			t.Errorf("%s: TellPacket = %x, %d, want %x", c.name, s, e, text)
		}
	}
}

func TestP3NoPacket(t *testing.T) {
	for name, text := range map[string]string{
		"empty":                               "",
		"11 bytes":                            plainHead(0x80)[:11],
		"1501 bytes":                          plainHead(0x80) + noughts(1489),
		"version 0":                           plainHead(0x00),
		"version 1":                           plainHead(0x40),
		"version 3":                           plainHead(0xc0),
		"no contributor there":                plainHead(0x81),
		"contributor cut off":                 plainHead(0x82) + "1234567",
		"no extension there":                  plainHead(0x90),
		"extension's head cut off":            plainHead(0x90) + "\x00\x00\x00",
		"extension cut off":                   plainHead(0x90) + "\x00\x00\x00\x02abcdefg",
		"longest extension cut off":           plainHead(0x90) + "\x00\x00\xff\xffabcd",
		"extension eaten by contributors":     plainHead(0x91) + noughts(4),
		"no padding there":                    plainHead(0xa0),
		"padding of none":                     plainHead(0xa0) + "x\x00",
		"padding beyond the payload":          plainHead(0xa0) + "\x00\x03",
		"padding that is not noughts":         plainHead(0xa0) + "x\x02",
		"padding that begins with another":    plainHead(0xa0) + "\x01\x00\x00\x04",
		"padding that would be a source":      plainHead(0xa0)[:11] + "\x01",
		"padding that would be a contributor": plainHead(0xa1) + "\x00\x00\x00\x01",
		"padding that would be an extension":  plainHead(0xb0) + "\x00\x00\x00\x01\x00\x00\x00\x01",
	} {
		if x, e := ParsePacket(text); e != api.ErrForm || !reflect.DeepEqual(x, api.Packet{}) {
			t.Errorf("%s: ParsePacket = %+v, %d", name, x, e)
		}
	}
}

func TestP3CutOffAnywhere(t *testing.T) {
	whole := unhex(t, "bf 60 0001 00000002 00000003"+strings.Repeat("01020304", 15)+"0005 0001 61626364 01")
	if _, e := ParsePacket(whole); e != api.OK {
		t.Fatalf("whole: %d", e)
	}
	for n := range len(whole) {
		if x, e := ParsePacket(whole[:n]); e != api.ErrForm || !reflect.DeepEqual(x, api.Packet{}) {
			t.Errorf("first %d bytes: %+v, %d", n, x, e)
		}
	}
}

func TestP3NumbersThatMayNotBe(t *testing.T) {
	tooLong := strings.Repeat("p", 1489)
	for name, x := range map[string]api.Packet{
		"type above":                        {Type: 128},
		"type below":                        {Type: -1},
		"number above":                      {Number: 65536},
		"number below":                      {Number: -1},
		"time above":                        {Time: 1 << 32},
		"time below":                        {Time: -1},
		"source above":                      {Source: 1 << 32},
		"source below":                      {Source: -1},
		"contributor above":                 {Contributors: []int{0, 1 << 32}},
		"contributor below":                 {Contributors: []int{-1, 0}},
		"16 contributors":                   {Contributors: make([]int, 16)},
		"profile above":                     {Extended: true, Profile: 65536},
		"profile below":                     {Extended: true, Profile: -1},
		"padding above":                     {Padding: 256},
		"padding below":                     {Padding: -1},
		"extension of 1":                    {Extended: true, Extension: "1"},
		"extension of 6":                    {Extended: true, Extension: "123456"},
		"profile, not extended":             {Profile: 1},
		"profile below, not extended":       {Profile: -1},
		"extension, not extended":           {Extension: "1234"},
		"lowest of all":                     {Number: math.MinInt},
		"highest of all":                    {Padding: math.MaxInt},
		"wrong number, and too long":        {Type: 128, Payload: tooLong},
		"wrong padding, and too long":       {Padding: 256, Payload: tooLong},
		"not extended, and too long":        {Extension: noughts(1500)},
		"no multiple of four, and too long": {Extended: true, Extension: noughts(1501)},
		"too many contributors, and long":   {Contributors: make([]int, 400)},
	} {
		if s, e := TellPacket(x); s != "" || e != api.ErrNumber {
			t.Errorf("%s: TellPacket = %x, %d", name, s, e)
		}
	}
}

func TestP3TooLongToTell(t *testing.T) {
	payload := strings.Repeat("p", 1488)
	for name, x := range map[string]api.Packet{
		"by the payload":         {Payload: payload + "p"},
		"by padding":             {Payload: payload, Padding: 1},
		"by a contributor":       {Payload: payload[:1485], Contributors: []int{1}},
		"by an extension's head": {Payload: payload[:1485], Extended: true},
		"by an extension":        {Extended: true, Extension: noughts(1488)},
		"by a great one":         {Extended: true, Extension: noughts(4 * 65536)},
	} {
		if s, e := TellPacket(x); s != "" || e != api.ErrForm {
			t.Errorf("%s: TellPacket = %d bytes, %d", name, len(s), e)
		}
	}
}

// What is read as a packet has told all that its bytes say.
func FuzzPacket(f *testing.F) {
	for _, c := range append(longCases(), packetCases...) {
		f.Add(unhex(f, c.hex))
	}
	f.Fuzz(func(t *testing.T, text string) {
		x, e := ParsePacket(text)
		if e == api.ErrForm && reflect.DeepEqual(x, api.Packet{}) {
			return
		}
		if s, told := TellPacket(x); e != api.OK || told != api.OK || s != text {
			t.Errorf("ParsePacket(%x) = %+v, %d, told as %x, %d", text, x, e, s, told)
		}
	})
}

// Every first byte, at every last byte, at lengths around all the edges.
func TestP3EveryFirstByte(t *testing.T) {
	for first := range 256 {
		for last := range 256 {
			for _, length := range []int{12, 13, 16, 20, 72, 73, 76, 77, 300} {
				text := plainHead(byte(first))[:11] + noughts(length-12) + string([]byte{byte(last)})
				checkNoughts(t, text)
			}
		}
	}
}

// checkNoughts: text is noughts, but for its first and last bytes.
func checkNoughts(t *testing.T, text string) {
	t.Helper()
	first, last := int(text[0]), int(text[len(text)-1])
	room := len(text) - 12 - 4*(first%16)
	extended := first/16%2 == 1
	if extended {
		room -= 4
	}
	good := first/64 == 2 && room >= 0
	if extended && room == 0 && last != 0 {
		good = false // the last byte is the extension's length
	}
	padded := first/32%2 == 1
	if padded && (last == 0 || last > room) {
		good = false
	}
	x, e := ParsePacket(text)
	if good != (e == api.OK) {
		t.Fatalf("%d bytes, first %#x, last %#x: %d", len(text), first, last, e)
	}
	if good && padded && (x.Padding != last || len(x.Payload) != room-last) {
		t.Fatalf("%d bytes, first %#x, last %#x: %+v", len(text), first, last, x)
	}
}
