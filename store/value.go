package store

import (
	"cmp"
	"strconv"
)

// Value is a number or, as it is made of zeros, NULL.
type Value struct {
	Some   bool
	Number int
}

// Number makes a value of a number.
func Number(n int) Value { return Value{Some: true, Number: n} }

// Text writes a value.
func (v Value) Text() string {
	if !v.Some {
		return "-"
	}
	return strconv.Itoa(v.Number)
}

// Compare puts values in order, NULL ahead of all numbers.
func Compare(a, b Value) int {
	if a.Some && b.Some {
		return cmp.Compare(a.Number, b.Number)
	}
	if a.Some {
		return 1
	}
	if b.Some {
		return -1
	}
	return 0
}
