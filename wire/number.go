// Package wire reads and writes packets and reports as bytes.
package wire

const (
	version    = 2     // in the two highest bits of every packet and part
	wordLength = 4     // what lengths in bytes are counted by
	MaxNumber  = 65535 // of packets, and of all else that has two bytes
)

// readNumber takes all of text, the highest byte first.
func readNumber(text string) int {
	n := 0
	for i := range len(text) {
		n = n<<8 | int(text[i])
	}
	return n
}

// readWords takes text as numbers of four bytes each.
func readWords(text string) []int {
	var words []int
	for ; len(text) >= wordLength; text = text[wordLength:] {
		words = append(words, readNumber(text[:wordLength]))
	}
	return words
}

// addNumber appends n in so many bytes, the highest one first.
func addNumber(out []byte, n, length int) []byte {
	for i := range length {
		out = append(out, byte(n>>(8*(length-1-i))))
	}
	return out
}

// NumberBytes answers the two bytes of a packet's number.
func NumberBytes(n int) string {
	return string(addNumber(nil, n, 2))
}

func within(n, most int) bool {
	return n >= 0 && n <= most
}

func allWithin(list []int, most int) bool {
	for _, n := range list {
		if !within(n, most) {
			return false
		}
	}
	return true
}
