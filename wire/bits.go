package wire

// setBits tells which bits of a byte are set: the first count places, each
// counted in steps above the lowest bit, the lowest first.
type setBits struct {
	count  uint8
	places [8]uint8
}

// bitsOfByte has a row for every byte. SetBits alone reads it: the readers
// work their answers out by findBits, so that these hang on no variable.
var bitsOfByte [256]setBits

func init() {
	for b := range len(bitsOfByte) {
		bitsOfByte[b] = findBits(byte(b))
	}
}

// SetBits lists which bits of b are set, each counted in steps above the lowest
// one, the lowest first.
func SetBits(b byte) []int {
	row := bitsOfByte[b]
	var places []int
	for _, place := range row.places[:row.count] {
		places = append(places, int(place))
	}
	return places
}

func findBits(b byte) setBits {
	var found setBits
	for place := range uint8(len(found.places)) {
		if b>>place&1 == 1 {
			found.places[found.count] = place
			found.count++
		}
	}
	return found
}
