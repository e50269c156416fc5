package sequences

// lastOffsets are the last three offsets of a frame, the newest one first.
type lastOffsets [3]int

// take gives the offset that a value stands for, ahead of which there are as many literals as length says, and
// puts it first.
func (l *lastOffsets) take(value, length int) int {
	offset, from := l.find(value, length)
	copy(l[1:], l[:from])
	l[0] = offset
	return offset
}

// find gives the offset, and the place that becomes free when it is put first: its own, or for a new one the last.
func (l *lastOffsets) find(value, length int) (offset, from int) {
	if value > len(l) {
		return value - len(l), len(l) - 1
	}
	if length == 0 {
		value++
	}
	if value > len(l) {
		return l[0] - 1, len(l) - 1
	}
	return l[value-1], value - 1
}
