package field

import "dailies/api"

// Times is a matrix by another one, row by row.
func Times(m [][]byte, v [][]byte) ([][]byte, api.Errno) {
	length := rowLength(v)
	if len(m) > mostRows || len(v) > mostRows || !allAsLong(m, len(v)) || !allAsLong(v, length) {
		return nil, api.ErrFieldShape
	}
	product := noughts(len(m), length)
	for i, row := range product {
		for j, factor := range m[i] {
			addMultiple(row, factor, v[j])
		}
	}
	return product, api.OK
}

// Solve finds the rows x of which m times x is v.
func Solve(m [][]byte, v [][]byte) ([][]byte, api.Errno) {
	if len(m) > mostRows || !allAsLong(m, len(m)) || len(v) != len(m) || !allAsLong(v, rowLength(v)) {
		return nil, api.ErrFieldShape
	}
	left, right := copied(m), copied(v)
	cleared := 0
columns:
	for column := range left {
		for row := column; ; row++ {
			switch {
			case row == len(left):
				// Without a row for one column the others may be as they are: there is no one answer.
				break columns
			case left[row][column] != 0:
				exchange(left, right, column, row)
				clearColumn(left, right, column)
				cleared++
				continue columns
			}
		}
	}
	if cleared < len(left) {
		return nil, api.ErrFieldSingular
	}
	return right, api.OK
}

// exchange puts each of two rows in the other one's place, on both sides.
func exchange(left, right [][]byte, a, b int) {
	left[a], left[b] = left[b], left[a]
	right[a], right[b] = right[b], right[a]
}

// clearColumn makes a column's element of the row of its own number 1, and all others of it 0; right undergoes what left does.
func clearColumn(left, right [][]byte, column int) {
	inverse := power(left[column][column], order-1)
	scale(left[column], inverse)
	scale(right[column], inverse)
	for row := range left {
		if row == column {
			continue
		}
		factor := left[row][column]
		addMultiple(left[row], factor, left[column])
		addMultiple(right[row], factor, right[column])
	}
}

// scale multiplies a row by a factor.
func scale(row []byte, factor byte) {
	table := multiples(factor)
	for place, element := range row {
		row[place] = table[element]
	}
}

// addMultiple adds another row, multiplied by a factor, to a row.
func addMultiple(row []byte, factor byte, other []byte) {
	if factor == 0 {
		return
	}
	table := multiples(factor)
	for place, element := range other {
		row[place] ^= table[element]
	}
}

// multiples is all elements' products with one: rows are as long as payloads, so that looking up pays.
func multiples(a byte) [256]byte {
	var table [256]byte
	for place := range table {
		// An element is its half moved by one bit, and its lowest bit.
		table[place] = timesX(table[place/2]) ^ a*byte(place%2)
	}
	return table
}

// rowLength is how many elements a matrix's rows have; of no rows it is 0.
func rowLength(matrix [][]byte) int {
	if len(matrix) == 0 {
		return 0
	}
	return len(matrix[0])
}

// allAsLong tells whether each row has so many elements.
func allAsLong(matrix [][]byte, length int) bool {
	for _, row := range matrix {
		if len(row) != length {
			return false
		}
	}
	return true
}

// noughts is a matrix of so many rows with so many noughts each. Rows are made one by one: they are the caller's, with their spare room.
func noughts(rows, length int) [][]byte {
	matrix := make([][]byte, rows)
	for i := range matrix {
		matrix[i] = make([]byte, length)
	}
	return matrix
}

// copied is a matrix of the same elements in memory of its own.
func copied(matrix [][]byte) [][]byte {
	other := noughts(len(matrix), rowLength(matrix))
	for i, row := range matrix {
		copy(other[i], row)
	}
	return other
}
