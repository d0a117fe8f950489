package wire

import (
	"reflect"
	"testing"

	"mender/api"
)

// The count is made ahead of the numbers, so that their list is made once.
func TestCountAsked(t *testing.T) {
	for _, entries := range []string{"", "\x00\x05\x00\x00", "\x00\x05\x80\x03", "\xff\xff\xff\xff\x00\x01\x01\x70\x00\x00\x0f\x00"} {
		if got, want := countAsked(entries), len(readEntries(entries)); got != want {
			t.Errorf("countAsked(%x) = %d, want %d", entries, got, want)
		}
	}
}

// Whatever the table says, only the spare room of an answer hangs on it.
func TestAnswersHangOnNoVariable(t *testing.T) {
	right := bitsOfByte
	defer func() { bitsOfByte = right }()
	text := "\x81\xcd\x00\x04\x00\x00\x00\x01\x00\x00\x00\x02\xff\xfe\x80\x05\x00\x64\x01\x00"
	want := []api.Asking{{Sender: 1, Source: 2, Numbers: []int{65534, 65535, 1, 14, 100, 109}}}
	for _, count := range []uint8{0, 1, 8, 255} {
		for b := range bitsOfByte {
			bitsOfByte[b] = setBits{count: count}
		}
		if got, e := ReadReport(text); e != api.OK || !reflect.DeepEqual(got, want) {
			t.Errorf("count %d: ReadReport = %+v, %d, want %+v", count, got, e, want)
		}
	}
}
