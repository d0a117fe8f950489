package wire

import (
	"math/bits"
	"slices"
	"testing"
)

func TestBitsOfByte(t *testing.T) {
	for b, row := range bitsOfByte {
		if int(row.count) != bits.OnesCount(uint(b)) {
			t.Errorf("byte %#x: count %d", b, row.count)
		}
		back, last := 0, -1
		for _, place := range row.places[:row.count] {
			if int(place) <= last {
				t.Errorf("byte %#x: places %v do not rise", b, row.places)
			}
			back |= 1 << place
			last = int(place)
		}
		if back != b {
			t.Errorf("byte %#x: places %v make %#x", b, row.places, back)
		}
		if row != findBits(byte(b)) {
			t.Errorf("byte %#x: the table has %v, findBits %v", b, row, findBits(byte(b)))
		}
	}
}

func TestSetBits(t *testing.T) {
	for b := range 256 {
		var want []int
		for place := range 8 {
			if b&(1<<place) != 0 {
				want = append(want, place)
			}
		}
		if got := SetBits(byte(b)); !slices.Equal(got, want) {
			t.Errorf("SetBits(%#x) = %v, want %v", b, got, want)
		}
	}
}

// What comes out is the caller's own: the table is not changed by it.
func TestSetBitsIsNewMemory(t *testing.T) {
	before, spoiled := SetBits(0xa5), SetBits(0xa5)
	spoiled = spoiled[:cap(spoiled)]
	for i := range spoiled {
		spoiled[i] = 99
	}
	want := []int{0, 2, 5, 7}
	if after := SetBits(0xa5); !slices.Equal(before, want) || !slices.Equal(after, want) {
		t.Errorf("before %v, after %v, want %v", before, after, want)
	}
}
