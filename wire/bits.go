package wire

// setBits tells which bits of a byte are set: the first count places, each
// counted in steps above the lowest bit, the lowest first.
type setBits struct {
	count  int
	places [8]int
}

// bitsOfByte has a row for every byte.
var bitsOfByte [256]setBits

func init() {
	for b := range len(bitsOfByte) {
		bitsOfByte[b] = findBits(b)
	}
}

func findBits(b int) setBits {
	var found setBits
	for place := range len(found.places) {
		if b>>place&1 == 1 {
			found.places[found.count] = place
			found.count++
		}
	}
	return found
}
