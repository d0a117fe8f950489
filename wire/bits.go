package wire

// setBits tells which bits of a byte are set: the first count places, each
// counted in steps above the lowest bit, the lowest first.
type setBits struct {
	count  uint8
	places [8]uint8
}

// bitsOfByte has a row for every byte. It tells how much room is needed; what
// is answered is worked out by findBits, so that it hangs on no variable.
var bitsOfByte [256]setBits

func init() {
	for b := range len(bitsOfByte) {
		bitsOfByte[b] = findBits(byte(b))
	}
}

func findBits(b byte) setBits {
	var found setBits
	for place := range uint8(len(found.places)) {
		if b>>place&1 == 1 {
			found.places[found.count] = place
			found.count++
		}
	}
	return found
}
