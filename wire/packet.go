package wire

import (
	"strings"

	"mender/api"
)

const (
	packetHead      = 12 // bytes ahead of the contributors
	extensionHead   = 4  // bytes ahead of what an extension holds
	MaxType         = 127
	maxPadding      = 255
	maxContributors = 15
)

const (
	paddingBit   = 0x20 // of a packet's first byte
	extensionBit = 0x10
	markerBit    = 0x80 // of its second one
)

// ReadPacket answers ErrForm, if text is no packet. The texts that it answers
// are clones: a piece of text would share the caller's memory.
func ReadPacket(text string) (api.Packet, api.Errno) {
	var x api.Packet
	var at, end int // of the payload
	if len(text) < packetHead || len(text) > api.MaxPacket || text[0]>>6 != version {
		goto wrong
	}
	x = readHead(text)
	at = packetHead + wordLength*int(text[0]&maxContributors)
	end = len(text)
	if at > end {
		goto wrong
	}
	x.Contributors = readWords(text[packetHead:at])
	if x.Extended {
		if end-at < extensionHead {
			goto wrong
		}
		length := wordLength * readNumber(text[at+2:at+4])
		x.Profile = readNumber(text[at : at+2])
		at += extensionHead
		if end-at < length {
			goto wrong
		}
		x.Extension = strings.Clone(text[at : at+length])
		at += length
	}
	if text[0]&paddingBit != 0 {
		x.Padding = int(text[end-1])
		if x.Padding == 0 || x.Padding > end-at {
			goto wrong
		}
		end -= x.Padding
		if !allNoughts(text[end : len(text)-1]) {
			goto wrong
		}
	}
	x.Payload = strings.Clone(text[at:end])
	return x, api.OK
wrong:
	return api.Packet{}, api.ErrForm
}

func readHead(text string) api.Packet {
	return api.Packet{
		Extended: text[0]&extensionBit != 0,
		Marker:   text[1]&markerBit != 0,
		Type:     int(text[1] & MaxType),
		Number:   readNumber(text[2:4]),
		Time:     readNumber(text[4:8]),
		Source:   readNumber(text[8:12]),
	}
}

func allNoughts(text string) bool {
	for i := range len(text) {
		if text[i] != 0 {
			return false
		}
	}
	return true
}

// WritePacket answers ErrNumber, if x holds what no packet can; ErrForm, if
// it would be too long.
func WritePacket(x api.Packet) (string, api.Errno) {
	if !headFits(x) || !extensionFits(x) || !within(x.Padding, maxPadding) {
		return "", api.ErrNumber
	}
	length := packetLength(x)
	if length > api.MaxPacket {
		return "", api.ErrForm
	}
	out := make([]byte, 0, length)
	out = addHead(out, x)
	out = addExtension(out, x)
	out = append(out, x.Payload...)
	out = addPadding(out, x.Padding)
	return string(out), api.OK
}

func headFits(x api.Packet) bool {
	return within(x.Type, MaxType) &&
		within(x.Number, MaxNumber) &&
		within(x.Time, api.MaxSource) &&
		within(x.Source, api.MaxSource) &&
		len(x.Contributors) <= maxContributors &&
		allWithin(x.Contributors, api.MaxSource)
}

func extensionFits(x api.Packet) bool {
	if !x.Extended {
		return x.Profile == 0 && x.Extension == ""
	}
	return within(x.Profile, MaxNumber) && len(x.Extension)%wordLength == 0
}

func packetLength(x api.Packet) int {
	length := packetHead + wordLength*len(x.Contributors) + len(x.Payload) + x.Padding
	if x.Extended {
		length += extensionHead + len(x.Extension)
	}
	return length
}

func addHead(out []byte, x api.Packet) []byte {
	first := version<<6 | len(x.Contributors)
	if x.Padding > 0 {
		first |= paddingBit
	}
	if x.Extended {
		first |= extensionBit
	}
	second := x.Type
	if x.Marker {
		second |= markerBit
	}
	out = append(out, byte(first), byte(second))
	out = addNumber(out, x.Number, 2)
	out = addNumber(out, x.Time, 4)
	out = addNumber(out, x.Source, 4)
	for _, c := range x.Contributors {
		out = addNumber(out, c, 4)
	}
	return out
}

func addExtension(out []byte, x api.Packet) []byte {
	if !x.Extended {
		return out
	}
	out = addNumber(out, x.Profile, 2)
	out = addNumber(out, len(x.Extension)/wordLength, 2)
	return append(out, x.Extension...)
}

func addPadding(out []byte, padding int) []byte {
	if padding == 0 {
		return out
	}
	out = append(out, make([]byte, padding-1)...)
	return append(out, byte(padding))
}
