package times

import (
	"math"

	"clarion/api"
)

// Place is a table's place of a byte, as a complex number: the row is real, the column imaginary. Both are far below 2 to the 53rd: so their floats are exact.
func Place(rows, at int) (complex128, api.Errno) {
	switch {
	case !isTable(rows):
		return 0, api.ErrArg
	case !within(at, 0, api.Data*rows-1):
		return 0, api.ErrRange
	}
	return complex(float64(at%rows), float64(at/rows)), api.OK
}

// At is where a place is, of the table's bytes.
func At(rows int, p complex128) (int, api.Errno) {
	if !isTable(rows) {
		return 0, api.ErrArg
	}
	row, column := real(p), imag(p)
	if !whole(row, rows) || !whole(column, api.Data) {
		return 0, api.ErrRange
	}
	return int(column)*rows + int(row), api.OK
}

// isTable tells whether a table may have so many rows.
func isTable(rows int) bool {
	switch rows {
	case 256, 512, 768, api.MaxRows:
		return true
	}
	return false
}

// whole tells whether a part of a place is a whole number from 0 to below an end. What is no number is not even 0 or above.
func whole(x float64, end int) bool {
	return x >= 0 && x < float64(end) && x == math.Trunc(x)
}
