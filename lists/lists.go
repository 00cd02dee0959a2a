// Package lists has what several layers do with lists that rise. What it answers is new memory, and nil for a list without elements, so that nothing tells what was put in and taken out again.
package lists

import "slices"

// Rise answers whether a list rises in that order: no two of it are alike.
func Rise[T any](list []T, order func(a, b T) int) bool {
	for i := range len(list) - 1 {
		if order(list[i], list[i+1]) >= 0 {
			return false
		}
	}
	return true
}

// Insert answers a list that rises with x at its place.
func Insert[T any](list []T, x T, order func(a, b T) int) []T {
	at, _ := slices.BinarySearchFunc(list, x, order)
	return slices.Concat(list[:at], []T{x}, list[at:])
}

// Without answers the list without the one at that place.
func Without[T any](list []T, at int) []T { return slices.Concat(list[:at], list[at+1:]) }

// Copy answers the list.
func Copy[T any](list []T) []T { return slices.Concat(list) }
