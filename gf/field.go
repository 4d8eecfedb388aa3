package gf

// Field is the numbers, to be asked many times.
type Field struct {
	exp [2 * ring]byte // twice round, so that the sum of two logarithms is a place of it
	log [size]byte     // that of 0 means nothing
}

// New is one.
func New() *Field {
	f := &Field{}
	a := byte(1)
	for n := range ring {
		f.exp[n], f.exp[n+ring] = a, a
		f.log[a] = byte(n)
		a = double(a)
	}
	return f
}

// Mul is the product of two; 0 of a nil field.
func (f *Field) Mul(a, b byte) byte {
	if f == nil || a == 0 || b == 0 {
		return 0
	}
	return f.exp[int(f.log[a])+int(f.log[b])]
}

// Inv is the byte by which the product is 1; 0 of 0, and of a nil field.
func (f *Field) Inv(a byte) byte {
	if f == nil || a == 0 {
		return 0
	}
	return f.exp[ring-int(f.log[a])]
}

// Exp is 2, n times by itself; 0 of a nil field.
func (f *Field) Exp(n int) byte {
	if f == nil {
		return 0
	}
	return f.exp[round(n)]
}

// Log is how many times 2 is by itself in a, from 0 to 254; -1 of 0; 0 of a nil field.
func (f *Field) Log(a byte) int {
	switch {
	case f == nil:
		return 0
	case a == 0:
		return -1
	}
	return int(f.log[a])
}
