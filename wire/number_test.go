package wire

import "testing"

func TestNumberBytes(t *testing.T) {
	for n, want := range map[int]string{0: "\x00\x00", 1: "\x00\x01", 255: "\x00\xff", 256: "\x01\x00", 1001: "\x03\xe9", 65535: "\xff\xff"} {
		if got := NumberBytes(n); got != want {
			t.Errorf("NumberBytes(%d) = %x, want %x", n, got, want)
		}
	}
}
