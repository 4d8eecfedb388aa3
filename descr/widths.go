package descr

// most is how many numbers stand one behind the other, at most.
const most = 9

// widths is how many bits each of some numbers has; none behind the last one.
type widths [most]int

// numbers is what stands in such bits.
type numbers [most]int

var (
	ofSlice  = widths{1, 1, 1, 2, 1, 2, 8, 4, 4}
	ofPlace  = widths{16, 16, 16, 16, 8}
	ofTarget = widths{8, 8, 8, 8, 8}
	ofInt    = widths{24, 8, 8}
	ofHead   = widths{24, 8}
	ofLong   = widths{4, 12}
)

// fit tells whether each number has room in its bits.
func (w widths) fit(l numbers) bool {
	for k, n := range l {
		// A number below 0 stays one, however far its bits go down.
		if n>>w[k] != 0 {
			return false
		}
	}
	return true
}

// bytes is how many bytes the bits are.
func (w widths) bytes() int {
	n := 0
	for _, width := range w {
		n += width
	}
	return n / 8
}

// text is the bytes of numbers that fit.
func (w widths) text(l numbers) string {
	var s []byte
	held, many := 0, 0 // bits that are no byte yet
	for k, n := range l {
		held, many = held<<w[k]|n, many+w[k]
		for ; many >= 8; many -= 8 {
			s = append(s, byte(held>>(many-8)))
		}
		held &= 1<<many - 1
	}
	return string(s)
}

// read is the numbers of a text that has so many bytes, or more.
func (w widths) read(s string) numbers {
	var l numbers
	held, many := 0, 0 // bits that are no number yet
	for k, width := range w {
		for ; many < width; many += 8 {
			held, s = held<<8|int(s[0]), s[1:]
		}
		many -= width
		l[k] = held >> many
		held &= 1<<many - 1
	}
	return l
}
