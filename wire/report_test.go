package wire

import (
	"reflect"
	"testing"

	"mender/api"
)

// Whatever the table says, no answer hangs on it, nor the room of its lists.
func TestAnswersHangOnNoVariable(t *testing.T) {
	right := bitsOfByte
	defer func() { bitsOfByte = right }()
	text := "\x81\xcd\x00\x04\x00\x00\x00\x01\x00\x00\x00\x02\xff\xfe\x80\x05\x00\x64\x01\x00"
	want := []api.Asking{{Sender: 1, Source: 2, Numbers: []int{65534, 65535, 1, 14, 100, 109}}}
	once, _ := ReadReport(text)
	for _, count := range []uint8{0, 1, 8, 255} {
		for b := range bitsOfByte {
			bitsOfByte[b] = setBits{count: count}
		}
		got, e := ReadReport(text)
		if e != api.OK || !reflect.DeepEqual(got, want) {
			t.Fatalf("count %d: ReadReport = %+v, %d, want %+v", count, got, e, want)
		}
		if cap(got) != cap(once) || cap(got[0].Numbers) != cap(once[0].Numbers) {
			t.Errorf("count %d: room for %d and %d, want %d and %d", count, cap(got), cap(got[0].Numbers), cap(once), cap(once[0].Numbers))
		}
	}
}
