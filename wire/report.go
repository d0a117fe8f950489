package wire

import "mender/api"

const (
	partHead    = 4  // bytes that a part's length does not count
	askingHead  = 12 // bytes ahead of an asking's entries
	entryLength = 4
	entryReach  = 16 // how far ahead of its number an entry tells

	partMark   = version << 1 // the three highest bits: no padding
	formBits   = 0x1f
	askingForm = 1
	askingKind = 205
)

// ReadReport answers the askings among the parts; ErrForm, if text is no
// report.
func ReadReport(text string) ([]api.Asking, api.Errno) {
	var askings []api.Asking
	if text == "" || len(text) > api.MaxPacket {
		goto wrong
	}
	for rest := text; rest != ""; {
		if len(rest) < partHead || rest[0]>>5 != partMark {
			goto wrong
		}
		length := partHead + wordLength*readNumber(rest[2:4])
		if length > len(rest) {
			goto wrong
		}
		if rest[0]&formBits == askingForm && rest[1] == askingKind {
			if length < askingHead+entryLength {
				goto wrong
			}
			askings = append(askings, readAsking(rest[:length]))
		}
		rest = rest[length:]
	}
	return askings, api.OK
wrong:
	return nil, api.ErrForm
}

func readAsking(part string) api.Asking {
	return api.Asking{
		Sender:  readNumber(part[4:8]),
		Source:  readNumber(part[8:12]),
		Numbers: readEntries(part[askingHead:]),
	}
}

func readEntries(entries string) []int {
	var numbers []int
	for ; entries != ""; entries = entries[entryLength:] {
		first := uint16(readNumber(entries[:2]))
		numbers = append(numbers, int(first))
		numbers = addSet(numbers, first+1, entries[3])
		numbers = addSet(numbers, first+9, entries[2])
	}
	return numbers
}

// addSet appends a number for each bit of b that is set; lowest is the number
// of the lowest bit.
func addSet(numbers []int, lowest uint16, b byte) []int {
	row := findBits(b)
	for i := range row.count {
		numbers = append(numbers, int(lowest+uint16(row.places[i])))
	}
	return numbers
}

// WriteAsking answers a report of one part; ErrNumber, if x holds what no
// asking can.
func WriteAsking(x api.Asking) (string, api.Errno) {
	if !askingFits(x) {
		return "", api.ErrNumber
	}
	entries := makeEntries(x.Numbers)
	length := askingHead + entryLength*len(entries)
	out := make([]byte, 0, length)
	out = append(out, partMark<<5|askingForm, askingKind)
	out = addNumber(out, (length-partHead)/wordLength, 2)
	out = addNumber(out, x.Sender, 4)
	out = addNumber(out, x.Source, 4)
	for _, e := range entries {
		out = addNumber(out, int(e.first), 2)
		out = addNumber(out, int(e.ahead), 2)
	}
	return string(out), api.OK
}

func askingFits(x api.Asking) bool {
	return within(x.Sender, api.MaxSource) &&
		within(x.Source, api.MaxSource) &&
		len(x.Numbers) >= 1 && len(x.Numbers) <= api.MaxAsked &&
		allWithin(x.Numbers, MaxNumber)
}

// entry: a number, and a bit for each of those ahead of it, the nearest lowest.
type entry struct {
	first, ahead uint16
}

func makeEntries(numbers []int) []entry {
	var entries []entry
	for _, n := range numbers {
		last := len(entries) - 1
		if last < 0 || !entries[last].take(uint16(n)) {
			entries = append(entries, entry{first: uint16(n)})
		}
	}
	return entries
}

// take sets the bit of number, if it is near enough ahead.
func (e *entry) take(number uint16) bool {
	steps := number - e.first // round, so that what is behind is far ahead
	if steps < 1 || steps > entryReach {
		return false
	}
	e.ahead |= 1 << (steps - 1)
	return true
}
