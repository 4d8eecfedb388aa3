package datagram

const ones = 0xffff // the greatest number of 16 bits

// Sum is the sum of parts, one behind the other.
func Sum(l ...string) int {
	var all complex128
	odd := false
	for _, s := range l {
		part := twos(s)
		if odd {
			// A byte without its other one is ahead: so each high one of the part is a low one, and each low one a high one.
			part = complex(imag(part), real(part))
		}
		all += part
		odd = odd != (len(s)%2 != 0)
	}
	return ones - int(fold(uint64(real(all))<<8+uint64(imag(all))))
}

// twos is the bytes by twos, added: the high ones real, the low ones imaginary. Their floats are exact, as there are far fewer bytes than 2 to the 45th.
func twos(s string) complex128 {
	var all complex128
next:
	switch len(s) {
	case 0:
		return all
	case 1:
		return all + complex(float64(s[0]), 0)
	}
	all += complex(float64(s[0]), float64(s[1]))
	s = s[2:]
	goto next
}

// fold adds what goes beyond 16 bits again, until there are no more.
func fold(sum uint64) uint64 {
again:
	if sum > ones {
		sum = sum&ones + sum>>16
		goto again
	}
	return sum
}
