package wire

import (
	"math/bits"
	"testing"
)

func TestBitsOfByte(t *testing.T) {
	for b, row := range bitsOfByte {
		if int(row.count) != bits.OnesCount(uint(b)) {
			t.Errorf("byte %#x: count %d", b, row.count)
		}
		back, last := 0, -1
		for _, place := range row.places[:row.count] {
			if int(place) <= last {
				t.Errorf("byte %#x: places %v do not rise", b, row.places)
			}
			back |= 1 << place
			last = int(place)
		}
		if back != b {
			t.Errorf("byte %#x: places %v make %#x", b, row.places, back)
		}
		if row != findBits(byte(b)) {
			t.Errorf("byte %#x: the table has %v, findBits %v", b, row, findBits(byte(b)))
		}
	}
}
