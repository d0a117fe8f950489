package wire

import "testing"

// The count is made ahead of the numbers, so that their list is made once.
func TestCountAsked(t *testing.T) {
	for _, entries := range []string{"", "\x00\x05\x00\x00", "\x00\x05\x80\x03", "\xff\xff\xff\xff\x00\x01\x01\x70\x00\x00\x0f\x00"} {
		if got, want := countAsked(entries), len(readEntries(entries)); got != want {
			t.Errorf("countAsked(%x) = %d, want %d", entries, got, want)
		}
	}
}
