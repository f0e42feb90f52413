package parity

import "dailies/field"

// cauchy is the matrix by whose row i the i-th row more is the sum of n rows. Of no rows there is none in field: then each sum is of nothing.
func cauchy(p, n int) [][]byte {
	if p == 0 || n == 0 {
		return make([][]byte, p)
	}
	// No more than MaxParity and MaxRows are asked for, which field does not refuse.
	matrix, _ := field.Cauchy(p, n)
	return matrix
}

// fillRows works the lost rows out, which are noughts still, of the rows and the rows more that are not lost.
func fillRows(all [][]byte, gone []bool, factors [][]byte) {
	n := len(all) - len(factors)
	lost := numbers(gone[:n], true, n)
	used := numbers(gone[n:], false, len(lost))
	// By each row more that is used: the lost rows' sum is that of all that is known. Solved for the factors alone, so that rows are gone through once, and no further than they are long.
	unknown, known := make([][]byte, len(used)), make([][]byte, len(used))
	for k, i := range used {
		known[k] = make([]byte, len(all))
		copy(known[k], factors[i])
		known[k][n+i] = 1
		for _, j := range lost {
			unknown[k] = append(unknown[k], factors[i][j])
			known[k][j] = 0
		}
	}
	// Every square part of Cauchy's matrix can be solved, so this one is not refused.
	solved, _ := field.Solve(unknown, known)
	for k, j := range lost {
		addSum(all[j], solved[k], all)
	}
}

// numbers are those of the marks that are as is asked, rising: so many at most.
func numbers(marks []bool, asked bool, most int) []int {
	var found []int
	for k, mark := range marks {
		if mark == asked && len(found) < most {
			found = append(found, k)
		}
	}
	return found
}

// cut makes rows of so many noughts each out of one list. Each has room for no more than these, so that who appends to one does not write into the next.
func cut(lengths []int) [][]byte {
	total := 0
	for _, length := range lengths {
		total += length
	}
	list, at := make([]byte, total), 0
	rows := make([][]byte, len(lengths))
	for k, length := range lengths {
		end := at + length
		rows[k] = list[at:end:end]
		at = end
	}
	return rows
}

// addSum adds other rows, each multiplied by its factor, to a row.
func addSum(row []byte, factors []byte, others [][]byte) {
	for j, other := range others {
		addMultiple(row, factors[j], other)
	}
}

// addMultiple adds another row, multiplied by a factor, to a row, as far as both reach: beyond its end a row counts as noughts.
func addMultiple(row []byte, factor byte, other []byte) {
	if factor == 0 {
		return
	}
	table := multiples(factor)
	other = other[:min(len(row), len(other))]
	for x, element := range other {
		row[x] ^= table[element]
	}
}

// multiples is all elements' products with one: rows are as long as payloads, so that looking up pays.
func multiples(factor byte) [256]byte {
	var table [256]byte
	for bit := range 8 {
		high := 1 << bit
		product := field.Mul(factor, byte(high))
		// A product with a sum is the sum of the products.
		for low := range high {
			table[high+low] = product ^ table[low]
		}
	}
	return table
}
